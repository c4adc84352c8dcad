import PyProof.Rows.All
import Wide.All
import OpenK.AllK
import Wide.FinOn
import Lean
import PySem.Challenge.RW_patchkin_k10_whole_recorded_stands
set_option Elab.async false
set_option linter.all false
set_option maxRecDepth 100000
set_option maxHeartbeats 0
theorem O4:type_of% @List.length_map:=@List.length_map
theorem UQ:type_of% @List.getElem?_eq_getElem:=@List.getElem?_eq_getElem
theorem UU:type_of% @PySem.wpAny_bind:=@PySem.wpAny_bind
theorem XS:type_of% @List.mem_singleton:=@List.mem_singleton
theorem XU:type_of% @Nat.le_refl:=@Nat.le_refl
theorem XY:type_of% @List.mem_of_getElem?:=@List.mem_of_getElem?
theorem XZ:type_of% @decide_eq_true:=@decide_eq_true
theorem YN:type_of% @List.length_append:=@List.length_append
theorem YR:type_of% @List.filter_cons_of_pos:=@List.filter_cons_of_pos
theorem aae:type_of% @List.mem_map_of_mem:=@List.mem_map_of_mem
theorem aag:type_of% @List.mem_cons:=@List.mem_cons
theorem aah:type_of% @List.length_cons:=@List.length_cons
theorem aai:type_of% @List.filter_cons_of_neg:=@List.filter_cons_of_neg
theorem aak:type_of% @List.mem_append:=@List.mem_append
theorem aal:type_of% @List.mem_cons_of_mem:=@List.mem_cons_of_mem
theorem aam:type_of% @Nat.le_trans:=@Nat.le_trans
theorem aan:type_of% @List.getElem?_map:=@List.getElem?_map
theorem aao:type_of% @List.mem_filter:=@List.mem_filter
theorem aap:type_of% @decide_eq_false:=@decide_eq_false
theorem aau:type_of% @PySem.Paired.length:=@PySem.Paired.length
theorem aav:type_of% @if_neg:=@if_neg
theorem aaw:type_of% @Bool.false_ne_true:=@Bool.false_ne_true
theorem aax:type_of% @if_pos:=@if_pos
theorem aay:type_of% @PySem.wpAny_pure:=@PySem.wpAny_pure
theorem aaz:type_of% @List.size_toArray:=@List.size_toArray
theorem aaA:type_of% @of_decide_eq_true:=@of_decide_eq_true
theorem aaB:type_of% @PySem.Heap.get?_push_of_some:=@PySem.Heap.get?_push_of_some
theorem aaC:type_of% @List.mem_cons_self:=@List.mem_cons_self
theorem aaD:type_of% @List.take_length:=@List.take_length
theorem aaE:type_of% @Option.some.inj:=@Option.some.inj
theorem aaF:type_of% @PySem.W.mg_of:=@PySem.W.mg_of
theorem aaG:type_of% @List.map_append:=@List.map_append
theorem aaH:type_of% @List.filter_append:=@List.filter_append
theorem aaI:type_of% @List.mem_append_left:=@List.mem_append_left
theorem aaJ:type_of% @PySem.Heap.lt_size:=@PySem.Heap.lt_size
theorem aaK:type_of% @List.map_cons:=@List.map_cons
theorem aaL:type_of% @PySem.boot_len:=@PySem.boot_len
theorem aaM:type_of% @PySem.PassesOwn.never:=@PySem.PassesOwn.never
theorem aaN:type_of% @PySem.Heap.get?_push_size:=@PySem.Heap.get?_push_size
theorem aaO:type_of% @List.length_take:=@List.length_take
theorem aaP:type_of% @PySem.sizeLine_eq:=@PySem.sizeLine_eq
theorem aaQ:type_of% @List.length_eq_zero_iff:=@List.length_eq_zero_iff
theorem aaR:type_of% @Nat.lt_of_lt_of_le:=@Nat.lt_of_lt_of_le
theorem aaS:type_of% @decide_eq_true_iff:=@decide_eq_true_iff
theorem aaT:type_of% @List.mem_iff_getElem?:=@List.mem_iff_getElem?
theorem aaU:type_of% @List.Sublist.refl:=@List.Sublist.refl
theorem aaV:type_of% @List.flatMap_cons:=@List.flatMap_cons
theorem aaW:type_of% @List.mem_append_right:=@List.mem_append_right
theorem aaX:type_of% @List.length_filter_le:=@List.length_filter_le
theorem aaY:type_of% @Nat.zero_le:=@Nat.zero_le
theorem aaZ:type_of% @List.append_nil:=@List.append_nil
theorem aa0:type_of% @Nat.ne_of_lt:=@Nat.ne_of_lt
theorem aa1:type_of% @PySem.F.plainAttrs_list:=@PySem.F.plainAttrs_list
theorem aa2:type_of% @List.filter_nil:=@List.filter_nil
theorem aa3:type_of% @Array.length_toList:=@Array.length_toList
theorem aa4:type_of% @List.append_assoc:=@List.append_assoc
theorem aa5:type_of% @List.filter_sublist:=@List.filter_sublist
theorem aa6:type_of% @List.drop_eq_getElem_cons:=@List.drop_eq_getElem_cons
theorem aa7:type_of% @List.pairwise_iff_getElem:=@List.pairwise_iff_getElem
theorem aa8:type_of% @List.nodup_cons:=@List.nodup_cons
theorem aa9:type_of% @Bool.false_eq_true:=@Bool.false_eq_true
theorem aa_:type_of% @PySem.F.slot_list_append:=@PySem.F.slot_list_append
theorem aba:type_of% @PySem.F.type_list_append:=@PySem.F.type_list_append
theorem abb:type_of% @PySem.W.mg_none_of:=@PySem.W.mg_none_of
theorem abc:type_of% @List.flatMap_append:=@List.flatMap_append
theorem abd:type_of% @congrArg:=@congrArg
theorem abe:type_of% @PyProof.Rows.boot_isinstance:=@PyProof.Rows.boot_isinstance
theorem abf:type_of% @Array.getElem?_eq_getElem:=@Array.getElem?_eq_getElem
theorem abg:type_of% @PyProof.Rows.callWith_type1:=@PyProof.Rows.callWith_type1
theorem abh:type_of% @List.nodup_append:=@List.nodup_append
theorem abi:type_of% @List.mem_flatMap:=@List.mem_flatMap
theorem abj:type_of% @List.sublist_append_right:=@List.sublist_append_right
theorem abk:type_of% @List.getElem?_append_right:=@List.getElem?_append_right
theorem abm:type_of% @Bool.and_eq_true:=@Bool.and_eq_true
theorem abn:type_of% @Bool.eq_iff_iff:=@Bool.eq_iff_iff
theorem abo:type_of% @PySem.Heap.get?_update_self:=@PySem.Heap.get?_update_self
theorem abp:type_of% @List.replicate_succ:=@List.replicate_succ
theorem abq:type_of% @Array.getElem?_toList:=@Array.getElem?_toList
theorem abr:type_of% @List.mem_range:=@List.mem_range
theorem abt:type_of% @List.nodup_nil:=@List.nodup_nil
theorem abu:type_of% @Nat.lt_irrefl:=@Nat.lt_irrefl
theorem abv:type_of% @PySem.wpAny_dictEntries:=@PySem.wpAny_dictEntries
theorem abw:type_of% @List.mem_filterMap:=@List.mem_filterMap
theorem abx:type_of% @PySem.Calls.spliced_cons:=@PySem.Calls.spliced_cons
theorem aby:type_of% @Nat.lt_of_le_of_lt:=@Nat.lt_of_le_of_lt
theorem abz:type_of% @List.getElem?_set_self:=@List.getElem?_set_self
theorem abA:type_of% @PySem.Calls.callWith_builtin:=@PySem.Calls.callWith_builtin
theorem abB:type_of% @PySem.W.kia_one:=@PySem.W.kia_one
theorem abC:type_of% @List.all_eq_true:=@List.all_eq_true
theorem abD:type_of% @List.filterMap_cons:=@List.filterMap_cons
theorem abE:type_of% @List.length_reverse:=@List.length_reverse
theorem abF:type_of% @PySem.Heap.SameBut.update:=@PySem.Heap.SameBut.update
theorem abG:type_of% @Int.toNat_of_nonneg:=@Int.toNat_of_nonneg
theorem abH:type_of% @PySem.F.slot_dict_keyiterator_next:=@PySem.F.slot_dict_keyiterator_next
theorem abI:type_of% @List.getElem?_set_ne:=@List.getElem?_set_ne
theorem abJ:type_of% @PySem.wpAny_mono:=@PySem.wpAny_mono
theorem abK:type_of% @PySem.Calls.evalArgs_plain:=@PySem.Calls.evalArgs_plain
theorem abL:type_of% @List.sublist_cons_self:=@List.sublist_cons_self
theorem abM:type_of% @PySem.wpAny_truthy_bool:=@PySem.wpAny_truthy_bool
theorem abN:type_of% @PySem.Calls.spliced_nil:=@PySem.Calls.spliced_nil
theorem abO:type_of% @PySem.mem_of_lookup:=@PySem.mem_of_lookup
theorem abP:type_of% @Int.toNat_natCast:=@Int.toNat_natCast
theorem abQ:type_of% @List.length_range:=@List.length_range
theorem abR:type_of% @List.getElem?_inj:=@List.getElem?_inj
theorem abS:type_of% @PySem.wpAny_holding:=@PySem.wpAny_holding
theorem abT:type_of% @List.getElem?_append_left:=@List.getElem?_append_left
theorem abU:type_of% @List.take_zero:=@List.take_zero
theorem abV:type_of% @List.take_append_drop:=@List.take_append_drop
theorem abW:type_of% @List.filterMap_append:=@List.filterMap_append
theorem abX:type_of% @PySem.tupleKind_room_in1:=@PySem.tupleKind_room_in1
theorem abY:type_of% @PySem.wpAny_typeNameOfWhole_keyiter:=@PySem.wpAny_typeNameOfWhole_keyiter
theorem abZ:type_of% @List.flatMap_nil:=@List.flatMap_nil
theorem ab0:type_of% @Ne.symm:=@Ne.symm
theorem ab1:type_of% @PySem.F.plainAttrs_dict:=@PySem.F.plainAttrs_dict
theorem ab2:type_of% @Bool.eq_false_iff:=@Bool.eq_false_iff
theorem ab3:type_of% @List.pairwise_map:=@List.pairwise_map
theorem ab4:type_of% @Option.map_some:=@Option.map_some
theorem ab5:type_of% @List.map_congr_left:=@List.map_congr_left
theorem ab6:type_of% @PySem.Heap.get?_update_other:=@PySem.Heap.get?_update_other
theorem ab7:type_of% @PyProof.Rows.boot_list:=@PyProof.Rows.boot_list
theorem ab8:type_of% @List.filter_cons:=@List.filter_cons
theorem ab9:type_of% @PySem.wpAny_call_entry:=@PySem.wpAny_call_entry
theorem ab_:type_of% @List.getElem?_take:=@List.getElem?_take
theorem aca:type_of% @if_false:=@if_false
theorem acb:type_of% @PySem.wpAny_passesOwn:=@PySem.wpAny_passesOwn
theorem acd:type_of% @List.flatten_cons:=@List.flatten_cons
theorem ace:type_of% @decide_eq_true_eq:=@decide_eq_true_eq
theorem acf:type_of% @PySem.F.slot_dict_update:=@PySem.F.slot_dict_update
theorem acg:type_of% @List.length_filterMap_le:=@List.length_filterMap_le
theorem ach:type_of% @PySem.Heap.get?_push_ne:=@PySem.Heap.get?_push_ne
theorem aci:type_of% @List.getElem?_range:=@List.getElem?_range
theorem acj:type_of% @List.lookup_cons:=@List.lookup_cons
theorem ack:type_of% @List.not_mem_nil:=@List.not_mem_nil
theorem acm:type_of% @List.getElem_mem:=@List.getElem_mem
theorem acn:type_of% @beq_iff_eq:=@beq_iff_eq
theorem aco:type_of% @List.getElem?_drop:=@List.getElem?_drop
theorem acp:type_of% @List.Nodup.sublist:=@List.Nodup.sublist
theorem acq:type_of% @List.length_set:=@List.length_set
theorem acr:type_of% @List.find?_cons:=@List.find?_cons
theorem acs:type_of% @PySem.F.slot_dict_pop:=@PySem.F.slot_dict_pop
theorem acu:type_of% @PySem.wpAny_specialOf:=@PySem.wpAny_specialOf
theorem acv:type_of% @PySem.wpAny_ite_split:=@PySem.wpAny_ite_split
theorem acw:type_of% @PySem.size_of_entries:=@PySem.size_of_entries
theorem acx:type_of% @List.range_succ:=@List.range_succ
theorem acy:type_of% @List.take_sublist:=@List.take_sublist
theorem acz:type_of% @List.any_cons:=@List.any_cons
theorem acA:type_of% @bne_self_eq_false:=@bne_self_eq_false
theorem acB:type_of% @List.reverse_cons:=@List.reverse_cons
theorem acC:type_of% @Nat.lt_succ_self:=@Nat.lt_succ_self
theorem acD:type_of% @List.range'_succ:=@List.range'_succ
theorem acE:type_of% @List.drop_length:=@List.drop_length
theorem acF:type_of% @Sum.inr.inj:=@Sum.inr.inj
theorem acG:type_of% @PySem.sizeLine_eq:=@PySem.sizeLine_eq
theorem acH:type_of% @Bool.or_eq_true:=@Bool.or_eq_true
theorem acI:type_of% @Nat.le_of_lt:=@Nat.le_of_lt
abbrev Qqq:=PySem.Value->PySem.Shared->Prop
abbrev Qqz:=List (PySem.Addr×PySem.Obj)
abbrev Qqx:=PySem.Str->Option PySem.Value
abbrev Qqy:=PySem.W.Frag
namespace L2
open PySem PySem.Spec PyProof.Rows
abbrev Key:=Sum Int Str
noncomputable def zp:Key->Value->Bool
 | .inl k,v=>Value.isInt k v
 | .inr x,v=>Value.isStrOf x v
noncomputable def Xf(w:World):Key->Int
 | .inl k=>hashInt k
 | .inr x=>hashStr w x
theorem jo:∀{k:Key} {v:Value},zp k v=true->(∃i t,k=Sum.inl i/\v=Value.int i t)\/(∃x t,k=Sum.inr x/\v=Value.str x t)
 | .inl i,v,h=>by
  obtain⟨t,e⟩:=Value.isInt_shape (k:=i) (v:=v) h
  exact .inl ⟨i,t,rfl,e⟩
 | .inr x,v,h=>by
  obtain⟨t,e⟩:=Value.isStrOf_shape (x:=x) (v:=v) h
  exact .inr ⟨x,t,rfl,e⟩
theorem Ic(i:Int)(t:Tok):zp (.inl i) (.int i t)=true:=by simp[zp,Value.isInt]
theorem Ie(x:Str)(t:Tok):zp (.inr x) (.str x t)=true:=by simp[zp,Value.isStrOf]
theorem Pu(a b:Int):decide ((Sum.inl a:Key)=Sum.inl b)=(a ==b):=by
 by_cases e:a=b
 ·subst e;simp
 ·have h:¬(Sum.inl a:Key)=Sum.inl b:=λq=>e (Sum.inl.inj q)
  rw[aap h]
  exact(beq_eq_false_iff_ne.mpr e).symm
theorem Pw(a b:Str):decide ((Sum.inr a:Key)=Sum.inr b)=decide (a=b):=by
 by_cases e:a=b
 ·subst e;simp
 ·have h:¬(Sum.inr a:Key)=Sum.inr b:=λq=>e (acF q)
  rw[aap h,aap e]
theorem Px(a:Int)(b:Str):decide ((Sum.inl a:Key)=Sum.inr b)=false:=aap (λq=>nomatch q)
theorem Py(a:Str)(b:Int):decide ((Sum.inr a:Key)=Sum.inl b)=false:=aap (λq=>nomatch q)
noncomputable def jd(prog:Program)(w:World):PySem.KeyKind prog w Key where
 is:=zp
 hash:=Xf w
 inj:=λv a b ha hb=>by
  rcases jo ha with⟨i,t,rfl,rfl⟩|⟨x,t,rfl,rfl⟩
  ·rcases jo hb with⟨j,u,rfl,e⟩|⟨y,u,rfl,e⟩
   ·injection e with e1 _;rw[e1]
   ·exact nomatch e
  ·rcases jo hb with⟨j,u,rfl,e⟩|⟨y,u,rfl,e⟩
   ·exact nomatch e
   ·injection e with e1 _;rw[e1]
 byValue:=λk v h=>by
  rcases jo h with⟨i,t,rfl,rfl⟩|⟨x,t,rfl,rfl⟩<;>rfl
 pyHash:=λhv h=>by
  rcases jo hv with⟨i,t,rfl,rfl⟩|⟨x,t,rfl,rfl⟩
  ·exact wpAny_pyHash_int h
  ·exact wpAny_pyHash_str h
 eqBool:=λhu hv h=>by
  rcases jo hu with⟨i,t,rfl,rfl⟩|⟨x,t,rfl,rfl⟩
  ·rcases jo hv with⟨j,u,rfl,rfl⟩|⟨y,u,rfl,rfl⟩
   ·rw[Pu] at h;exact wpAny_eqBool_int h
   ·rw[Px] at h;exact SeqAt.EqAt.int_str i t y u _ _ _ _ h
  ·rcases jo hv with⟨j,u,rfl,rfl⟩|⟨y,u,rfl,rfl⟩
   ·rw[Py] at h;exact SeqAt.EqAt.str_int x t j u _ _ _ _ h
   ·rw[Pw] at h;exact wpAny_eqBool_str h
 «strs»:=λk x t v h=>by
  rcases jo h with⟨i,u,rfl,e⟩|⟨y,u,rfl,e⟩
  ·exact nomatch e
  ·injection e with e1 _
   subst e1
   cases v<;>rfl
theorem D5(prog:Program)(w:World)(i:Int)(t:Tok):(jd prog w).is (.inl i) (.int i t)=true:=Ic i t
theorem D6(prog:Program)(w:World)(x:Str)(t:Tok):(jd prog w).is (.inr x) (.str x t)=true:=Ie x t
inductive V where
 | jc|bl (b:Bool)|int (i:Int)|str (x:Str)|D7 (b:Array UInt8)|Mj (b:UInt64)|ref (a:Addr)|ty (n:String)
 deriving DecidableEq
def RelV:V->Value->Prop
 | .jc,u=>u=Value.none
 | .bl b,u=>u=Value.bool b
 | .int i,u=>∃t,u=Value.int i t
 | .str x,u=>∃t,u=Value.str x t
 | .D7 b,u=>∃t,u=Value.bytes b t
 | .Mj b,u=>∃t,u=Value.float b t
 | .ref a,u=>u=Value.ref a
 | .ty n,u=>u=Value.type n
abbrev Vals:List V->List Value->Prop:=Paired RelV
theorem Vals.length{xs:List V}{us:List Value}(r:Vals xs us):xs.length=us.length:=aau r
theorem Vals.get:∀{xs:List V} {us:List Value} {i:Nat} {x:V},Vals xs us->xs[i]?=some x->∃u,us[i]?=some u/\RelV x u
 | _,_,_,_,.nil,e=>by simp at e
 | _,_,0,_,.cons r _,e=>by simp at e;subst e;exact⟨_,rfl,r⟩
 | _,_,i+1,x,.cons _ t,e=>by
  obtain⟨u,h1,h2⟩:=Vals.get (i:=i) (x:=x) t (by simpa using e)
  exact⟨u,by simpa using h1,h2⟩
theorem Vals.set{x:V}{u:Value}(r:RelV x u):∀{xs:List V} {us:List Value} (i:Nat),Vals xs us->Vals (xs.set i x) (us.set i u)
 | _,_,_,.nil=>.nil
 | _,_,0,.cons _ t=>.cons r t
 | _,_,i+1,.cons q t=>.cons q (Vals.set r i t)
theorem Vals.append:∀{xs ys:List V} {us ws:List Value},Vals xs us->Vals ys ws->Vals (xs++ys) (us++ws)
 | _,_,_,_,.nil,s=>s
 | _,_,_,_,.cons r t,s=>.cons r (Vals.append t s)
theorem Vals.take:∀{xs:List V} {us:List Value} (n:Nat),Vals xs us->Vals (xs.take n) (us.take n)
 | _,_,0,_=>.nil
 | _,_,_+1,.nil=>.nil
 | _,_,n+1,.cons r t=>.cons r (Vals.take n t)
theorem Vals.drop:∀{xs:List V} {us:List Value} (n:Nat),Vals xs us->Vals (xs.drop n) (us.drop n)
 | _,_,0,r=>r
 | _,_,_+1,.nil=>.nil
 | _,_,n+1,.cons _ t=>Vals.drop n t
def pw:Option V->Option Value->Prop
 | some v,some u=>RelV v u
 | none,none=>True
 | _,_=>False
def KV{Z:Type}:List (Z×V)->List (Z×Value)->Prop:=Paired λ(p:Z×V) (q:Z×Value)=>p.1=q.1/\RelV p.2 q.2
noncomputable def kV:Key->V
 | .inl i=>.int i
 | .inr x=>.str x
inductive HO where
 | lst (xs:List V)
 | tup (xs:List V)
 | dK (kvs:List (Key×V))|dT (kvs:List (List Key×V))
 | set (S:Int->Bool) (n:Nat)
 | ins (C dx:Addr) (fs:List (Str×V))
 | own (x:Addr)
 | xd (fs:List (Str×V))
 | met (f x:Addr)
 | V9 (lo hi:Int)
 | ni (o:Obj) (u:HO)
 | Ml (ps:Array Value)
 | ext (Z:Heap->Prop)
abbrev Hp:=Addr->Option HO
noncomputable def upd(H:Hp)(a:Addr)(o:HO):Hp:=λb=>if b=a then some o else H b
theorem b_{H:Hp}{a:Addr}{o:HO}:upd H a o a=some o:=by unfold upd;rw[aax rfl]
theorem d_{H:Hp}{a b:Addr}{o:HO}(h:b≠a):upd H a o b=H b:=by unfold upd;rw[aav h]
theorem My{H:Hp}{a:Addr}{o u:HO}:upd (upd H a o) a u=upd H a u:=by
 funext b;unfold upd;split<;>rfl
theorem iS{H:Hp}{a b:Addr}{o u:HO}(h:H a=some o)(h':H b=some u)(d:o≠u):a≠b:=by
 intro e;subst e;rw[h] at h';exact d (aaE h')
theorem gg{H:Hp}{a b:Addr}{o:HO}(h:H a=some o)(h':H b=none):a≠b:=by
 intro e;subst e;rw[h] at h';cases h'
section
variable(P:Program)(w:World)
noncomputable def i0(H:Hp)(h:Heap)(a:Addr):HO->Prop
 | .lst xs=>xs.length<=sizeLine/\∃(hE:List Value)(n:Nat),Vals xs hE/\h.get? a=some {cls:=.type "list",data:=.seq hE.toArray n}
 | .tup xs=>xs.length<=sizeLine/\∃hE:List Value,Vals xs hE/\IsTup h a hE.toArray
 | .dK kvs=>kvs.length<=sizeLine/\(a ==sysModules)=false/\∃vs,KV kvs vs/\h.DictOf (jd P w) a vs
 | .dT kvs=>kvs.length<=sizeLine/\(a ==sysModules)=false/\∃xs:List (List Key×Addr×Value),
  Paired (λ(p:List Key×V) (q:List Key×Addr×Value)=>p.1=q.1/\H q.2.1=some (.tup (p.1.map kV))/\RelV p.2 q.2.2) kvs xs/\
  ∃o es ep,h.get? a=some o/\o.ExactDict/\o.data=.dict es ep/\es.toList=xs.map (entryOfKey (tupleKind (jd P w)))/\(xs.map (·.1)).Nodup
 | .set S n=>h.SetOf (intKind P w) a S n
 | .ins C dx fs=>H dx=some (.own a)/\fs.length<=1000/\dx≠a/\h.get? a=some (W.instObj C dx)/\
  ∃mA,h.Ns1 dx mA/\(∀f,pw (fs.lookup f) (mA f))/\PySem.Within mA (fs.map (·.1))
 | .own _=>∃o,h.get? a=some o
 | .xd fs=>∃mA,h.Ns1 a mA/\∀f,pw (fs.lookup f) (mA f)
 | .V9 lo hi=>∃t u v,h.get? a=some {cls:=.type "range",data:=.fields #[.int lo t,.int hi u,.int 1 v]}
 | .ni o u=>h.get? a=some o/\i0 H h a u
 | .Ml ps=>h.get? a=some {cls:=.none,data:=.fields ps}
 | .met f x=>h.get? a=some (W.methodObj (.ref f) (.ref x))
 | .ext Z=>Z h/\(∃o,h.get? a=some o)/\∀h1 h2:Heap,Z h1->(∀o,h1.get? a=some o->h2.get? a=some o)->Z h2
def rq(H:Hp)(h:Heap):Prop:=∀a o,H a=some o->i0 P w H h a o
end
section
variable{P:Program}{w:World}{H H':Hp}{h h':Heap}{a:Addr}{o:HO}
theorem i0.lt(x:i0 P w H h a o):a<h.objs.size:=by
 cases o with
 | lst xs=>obtain⟨_,_,_,_,e⟩:=x;exact aaJ e
 | tup xs=>obtain⟨_,_,_,p⟩:=x;exact p.lt
 | dK kvs=>obtain⟨_,_,_,_,o,_,_,e,_⟩:=x;exact aaJ e
 | dT kvs=>obtain⟨_,_,_,_,o,_,_,e,_⟩:=x;exact aaJ e
 | set S n=>obtain⟨o,_,_,_,e,_⟩:=x;exact aaJ e
 | ins C dx fs=>obtain⟨_,_,_,e,_⟩:=x;exact aaJ e
 | own y=>obtain⟨_,e⟩:=x;exact aaJ e
 | xd fs=>obtain⟨_,⟨_,_,_,e,_⟩,_⟩:=x;exact aaJ e
 | V9 lo hi=>obtain⟨_,_,_,e⟩:=x;exact aaJ e
 | ni ob u=>obtain⟨e,_⟩:=x;exact aaJ e
 | Ml ps=>exact aaJ (show h.get? a=some _ from x)
 | met f y=>exact aaJ (show h.get? a=some _ from x)
 | ext Z=>obtain⟨_,⟨_,e⟩,_⟩:=x;exact aaJ e
theorem Paired.i4{Z Y:Type}{F G:Z->Y->Prop}:∀{l1:List Z} {l2:List Y},Paired F l1 l2->(∀a b,F a b->G a b)->Paired G l1 l2
 | _,_,.nil,_=>.nil
 | _,_,.cons r t,f=>.cons (f _ _ r) (Paired.i4 t f)
theorem i0.zq(x:i0 P w H h a o)(k:∀b u,(b=a\/H b=some (.own a))->h.get? b=some u->h'.get? b=some u)
  (ho:∀b,H b=some (.own a)->H' b=some (.own a)) (ht:∀b xs,H b=some (.tup xs)->H' b=some (.tup xs)):i0 P w H' h' a o:=by
 induction o with
 | lst xs=>obtain⟨z,hE,n,r,e⟩:=x;exact⟨z,hE,n,r,k _ _ (.inl rfl) e⟩
 | tup xs=>obtain⟨z,hE,r,ob,e,c⟩:=x;exact⟨z,hE,r,ob,k _ _ (.inl rfl) e,c⟩
 | dK kvs=>obtain⟨z,y,vs,r,ob,es,ep,e,c⟩:=x;exact⟨z,y,vs,r,ob,es,ep,k _ _ (.inl rfl) e,c⟩
 | dT kvs=>
  obtain⟨z,y,xs,r,ob,es,ep,e,c⟩:=x
  exact⟨z,y,xs,Paired.i4 r λp q z=>⟨z.1,ht _ _ z.2.1,z.2.2⟩,ob,es,ep,k _ _ (.inl rfl) e,c⟩
 | set S n=>obtain⟨ob,es,ep,t,e,c⟩:=x;exact⟨ob,es,ep,t,k _ _ (.inl rfl) e,c⟩
 | ins C dx fs=>
  obtain⟨d,z,ne,e,mA,⟨od,es,ep,e2,c⟩,r⟩:=x
  exact⟨ho _ d,z,ne,k _ _ (.inl rfl) e,mA,⟨od,es,ep,k _ _ (.inr d) e2,c⟩,r⟩
 | own y=>obtain⟨ob,e⟩:=x;exact⟨ob,k _ _ (.inl rfl) e⟩
 | xd fs=>obtain⟨mA,⟨od,es,ep,e,c⟩,r⟩:=x;exact⟨mA,⟨od,es,ep,k _ _ (.inl rfl) e,c⟩,r⟩
 | V9 lo hi=>obtain⟨t,u,v,e⟩:=x;exact⟨t,u,v,k _ _ (.inl rfl) e⟩
 | ni ob u ih=>obtain⟨e,q⟩:=x;exact⟨k _ _ (.inl rfl) e,ih q⟩
 | Ml ps=>
  have e:h.get? a=some {cls:=.none,data:=.fields ps}:=x
  show h'.get? a=some {cls:=.none,data:=.fields ps}
  exact k a _ (.inl rfl) e
 | met f y=>
  have e:h.get? a=some (W.methodObj (.ref f) (.ref y)):=x
  show h'.get? a=some (W.methodObj (.ref f) (.ref y))
  exact k a _ (.inl rfl) e
 | ext Z=>obtain⟨p,⟨o,e⟩,st⟩:=x;exact⟨st _ _ p λo q=>k _ _ (.inl rfl) q,⟨o,k _ _ (.inl rfl) e⟩,st⟩
theorem rq.lt(x:rq P w H h)(e:H a=some o):a<h.objs.size:=(x a o e).lt
theorem rq.fresh(x:rq P w H h)(e:h.objs.size<=a):H a=none:=by
 cases q:H a with
 | none=>rfl
 | some u=>exact absurd (aaR (x.lt q) e) (abu _)
theorem rq.kept(x:rq P w H h)(k:∀b u,h.get? b=some u->h'.get? b=some u):rq P w H h':=λa o e=>
 (x a o e).zq (λb u _ q=>k b u q) (λ_ q=>q) λ_ _ q=>q
theorem rq.laid(x:rq P w H h)(k:∀b u,h.get? b=some u->h'.get? b=some u)(hp:h.objs.size<=a)(new:i0 P w (upd H a o) h' a o):rq P w (upd H a o) h':=λb u e=>by
 have hn:=x.fresh hp
 by_cases hb:b=a
 ·subst hb;rw[b_] at e;cases e;exact new
 ·rw[d_ hb] at e
  exact(x b u e).zq (λc v _ q=>k c v q) (λc q=>by rw[d_ (gg q hn)];exact q) λc xs q=>by rw[d_ (gg q hn)];exact q
end
def Rd(H:Hp)(a:Addr)(u:HO):Prop:=H a=some u\/∃o,H a=some (.ni o u)
theorem Rd.ok{P:Program}{w:World}{H:Hp}{h:Heap}{a:Addr}{u:HO}(r:Rd H a u)(x:rq P w H h):i0 P w H h a u:=by
 rcases r with r|⟨o,r⟩
 ·exact x a u r
 ·obtain⟨_,q⟩:=x a _ r
  exact q
def Oq:Option HO->Prop
 | some (.lst _)=>True
 | some (.dK _)=>True
 | some (.dT _)=>True
 | some (.set _ _)=>True
 | some (.ins _ _ _)=>True
 | some (.ext _)=>True
 | _=>False
section
variable{P:Program}{w:World}{H:Hp}{h h':Heap}{x e:Addr}{o':HO}
theorem rq.write(ok:rq P w H h)(mu:Oq (H x))(he:e=x\/H e=some (.own x))(k:∀b u,b≠e->h.get? b=some u->h'.get? b=some u)(LJ:∃u,h'.get? e=some u)
  (new:i0 P w (upd H x o') h' x o'):rq P w (upd H x o') h':=λb u q=>by
 have Uq:∀c y,H c=some (.own y)->c≠x:=λc y r z=>by subst z;rw[r] at mu;exact mu
 have Yk:∀c xs,H c=some (.tup xs)->c≠x:=λc xs r z=>by subst z;rw[r] at mu;exact mu
 by_cases hb:b=x
 ·subst hb;rw[b_] at q;cases q;exact new
 ·rw[d_ hb] at q
  by_cases Q_:b=e
  ·have q':H b=some (.own x):=by
    rcases he with z|z
    ·exact absurd (Q_.trans z) hb
    ·rw[Q_];exact z
   rw[q] at q';cases q'
   obtain⟨v,hv⟩:=LJ
   exact⟨v,by rw[Q_];exact hv⟩
  ·refine(ok b u q).zq (λc v hc r=>k c v ?_ r) (λc r=>by rw[d_ (Uq c b r)];exact r) λc xs r=>by rw[d_ (Yk c xs r)];exact r
   rcases hc with rfl|hc
   ·exact Q_
   ·rintro rfl
    rcases he with z|z
    ·exact Uq c b hc z
    ·rw[hc] at z;cases z;exact hb rfl
end
structure Un(fs ex:List Addr)(H H':Hp)(h h':Heap):Prop where
 keep:∀b o,h.get? b=some o->H b=none->b∉fs->b∉ex->h'.get? b=some o
 slot:∀b o,h.get? b=some o->H b=none->b∈fs->b∉ex->∃sl,h'.get? b=some {o with slots:=sl}
 free:∀b o,h.get? b=some o->H b=none->b∉ex->H' b=none
 there:∀b o,h.get? b=some o->b∉ex->∃o',h'.get? b=some o'
 qh:∀b xs,H b=some (.tup xs)->H' b=some (.tup xs)
 uQ:∀b o u,H b=some (.ni o u)->H' b=some (.ni o u)
 yM:∀b ps,H b=some (.Ml ps)->∃more,H' b=some (.Ml (ps++more))
section
variable{fs fs' ex ex':List Addr}{H H1 H2:Hp}{h h1 h2 h':Heap}{a x e:Addr}{o:HO}
theorem Un.any(u:Un fs ex H H1 h h1){b:Addr}{ob:Obj}(q:h.get? b=some ob)(n:H b=none)(hx:b∉ex):∃sl,h1.get? b=some {ob with slots:=sl}:=by
 by_cases hb:b∈fs
 ·exact u.slot b ob q n hb hx
 ·exact⟨ob.slots,u.keep b ob q n hb hx⟩
theorem Un.kept(k:∀b u,h.get? b=some u->h'.get? b=some u):Un fs ex H H h h':=
 ⟨λb ob q _ _ _=>k b ob q,λb ob q _ _ _=>⟨ob.slots,k b ob q⟩,λ_ _ _ n _=>n,λb ob q _=>⟨ob,k b ob q⟩,λ_ _ q=>q,λ_ _ _ q=>q,λ_ ps q=>⟨#[],by rw[q];simp⟩⟩
theorem Un.refl:Un fs ex H H h h:=Un.kept λ_ _ q=>q
theorem Un.laid(k:∀b u,h.get? b=some u->h'.get? b=some u)(hp:h.objs.size<=a)(hn:H a=none):Un fs ex H (upd H a o) h h' where
 keep:=λb u q _ _ _=>k b u q
 slot:=λb u q _ _ _=>⟨u.slots,k b u q⟩
 free:=λb u q n _=>by rw[d_ (aa0 (aaR (aaJ q) hp))];exact n
 there:=λb u q _=>⟨u,k b u q⟩
 qh:=λb xs q=>by rw[d_ (gg q hn)];exact q
 uQ:=λb u xs q=>by rw[d_ (gg q hn)];exact q
 yM:=λb ps q=>⟨#[],by rw[d_ (gg q hn),q];simp⟩
theorem Un.write(mu:Oq (H x))(he:e=x\/H e=some (.own x))(k:∀b u,b≠e->h.get? b=some u->h'.get? b=some u)(LJ:∃u,h'.get? e=some u):Un fs ex H (upd H x o) h h':=by
 have hx:∀b,H b=none->b≠x:=λb n z=>by subst z;rw[n] at mu;exact mu
 have hb:∀b,H b=none->b≠e:=λb n z=>by
  subst z
  rcases he with r|r
  ·exact hx b n r
  ·rw[n] at r;cases r
 have hm:∀b u,H b=some u->¬Oq (some u)->b≠x:=λb u q nm z=>by subst z;rw[q] at mu;exact nm mu
 refine⟨λb u q n _ _=>k b u (hb b n) q,λb u q n _ _=>⟨u.slots,k b u (hb b n) q⟩,λb u q n _=>by rw[d_ (hx b n)];exact n,λb u q _=>?_,
  λb xs q=>by rw[d_ (hm b _ q λz=>z)];exact q,λb u xs q=>by rw[d_ (hm b _ q λz=>z)];exact q,λb ps q=>⟨#[],by rw[d_ (hm b _ q λz=>z),q];simp⟩⟩
 by_cases Q_:b=e
 ·subst Q_;exact LJ
 ·exact⟨u,k b u Q_ q⟩
end
noncomputable def V_(h:Heap)(H:Hp):List Addr:=(List.range h.objs.size).filter λa=>(H a).isSome
noncomputable def Cq(h:Heap)(H:Hp):Heap:=W.hideAll h (V_ h H)
theorem Ig(h:Heap)(H:Hp):(Cq h H).objs.size=h.objs.size:=W.hideAll_size _ _
theorem JE{h:Heap}{H:Hp}{b:Addr}{o:Obj}(e:h.get? b=some o)(n:H b=none):(Cq h H).get? b=some o:=
 W.hideAll_get _ e λhm=>by
  have q:(H b).isSome=true:=(aao.mp hm).2
  rw[n] at q;simp at q
theorem Mz{h:Heap}{H:Hp}{b:Addr}{o:Obj}(e:(Cq h H).get? b=some o):h.get? b=some o/\H b=none:=by
 have e':h.get? b=some o:=W.of_hideAll (V_ h H) e
 refine⟨e',?_⟩
 cases q:H b with
 | none=>rfl
 | some x=>
  have hm:b∈V_ h H:=aao.mpr ⟨abr.mpr (aaJ e'),by simp[q]⟩
  have z:(Cq h H).get? b=none:=W.hideAll_none (V_ h H) hm
  rw[z] at e;cases e
def MA(g h:Heap)(L:Addr):Qqz:=(List.range h.objs.size).filterMap λa=>if a=L\/(g.get? a).isSome=true then none else(h.get? a).map λo=>(a,o)
def rest(g h:Heap)(L d:Addr):Qqz:=(MA g h L).filter λp=>decide (p.1≠d)
structure Mod(K:Qqy)(mg:Qqx)(base:Heap):Prop where
 RZ:K.In base
 glob:base.Ns mainGlobals mg
 blt:∃mb,base.Ns builtinsNs mb/\∀x:Str,x≠"__name__"->mb x=bootBuiltins x
 nolimit:base.NoLimit
structure Cx where
 prog:Program
 w:World
 K:Qqy
 mg:Qqx
 base:Heap
 A:Around
 N:List Str
 s0:Shared
 H0:Hp
 env:Env
 outer:List Env
 stack:List Env
 ex:List Addr
 fn:Str->Bool
 calm:Bool
 pn:Qqz
 xe:Qqq
def uh(l:List Env):List Addr:=l.filterMap (·.frame)
abbrev Cx.fs(X:Cx):List Addr:=uh X.outer
def Xg(sc:Scope)(x:Str):Prop:=sc.names.lookup x=some .local\/sc.names.lookup x=some .cell\/sc.names.lookup x=some .free
def Loc(sc:Scope)(x:Str):Prop:=sc.names.lookup x=some .local\/sc.names.lookup x=some .cell
def Look(env:Env)(h:Heap)(m:Qqx)(x:Str)(u:Value):Prop:=
 (env.kindOf x=some .local/\m x=some u)\/((env.kindOf x=some .cell\/env.kindOf x=some .free)/\∃c,env.cells.lookup x=some c/\h.IsCell c (some u))
structure Cx.Ok(X:Cx):Prop where
 mod:Mod X.K X.mg X.base
 kind:X.env.scope.kind=.function
 glob:X.env.globals=mainGlobals
 blt:X.env.builtins=builtinsNs
 above:X.s₀.heap.objs.size<=X.env.locals
 inj:∀x y c,X.env.cells.lookup x=some c->X.env.cells.lookup y=some c->x=y
 has:∀x,(X.env.kindOf x=some .cell\/X.env.kindOf x=some .free)->∃c,X.env.cells.lookup x=some c
 R0:∀x c,X.fn x=true->X.env.cells.lookup x=some c->X.s₀.heap.objs.size<=c
 hd:X.calm=true->X.A.handled=none
 frames:X.A.frames=some X.stack
 SV:X.stack=X.outer\/(X.stack=X.env::X.outer/\X.env.frame=some X.env.locals)
 Xh:∀b∈X.ex,b≠X.env.locals/\∀x c,X.env.cells.lookup x=some c->c≠b
 bs:∀b o,X.base.get? b=some o->X.s₀.heap.get? b=some o/\X.H₀ b=none
 MB:X.base.objs.size<=X.s₀.heap.objs.size
 tK:∀b o,X.base.get? b=some o->b∉X.ex
 JF:∀b∈X.ex,b∉X.fs
 uR:X.s₀.heap.FunFrames X.base X.outer
 Ot:∀b∈X.fs,X.H₀ b=none
structure Inv(X:Cx)(c_:Qqz)(Z:List (Option V))(H:Hp)(s:Shared):Prop where
 ok:X.Ok
 os:s.os=X.s₀.os
 bare:AllBare s.gens
 base:Un X.fs X.ex X.H₀ H X.s₀.heap s.heap
 loc:∃m,s.heap.Ns X.env.locals m/\∀(i:Nat)(x:Str)(v:V),X.N[i]?=some x->Z[i]?=some (some v)->Xg X.env.scope x->∃u,RelV v u/\Look X.env s.heap m x u
 cell:∀x c,X.env.cells.lookup x=some c->∃v,s.heap.IsCell c v
 free:H X.env.locals=none
 pz:∀x c,X.env.cells.lookup x=some c->H c=none
 pin:∀p∈X.pn++c_,s.heap.get? p.1=some p.2/\H p.1=none/\p.1≠X.env.locals/\p.1∉X.fs/\∀v,p.2.data≠.cell v
 iK:rq X.prog X.w H s.heap
 len:Z.length=X.N.length
section
variable{X:Cx}{c_:Qqz}{Z:List (Option V)}{H H':Hp}{s:Shared}{h':Heap}
theorem Cx.Ok.MC(ok:X.Ok){b:Addr}{o:Obj}(e:X.base.get? b=some o):b∉X.fs:=λhb=>by
 have:=(ok.uR.mem hb).1
 rw[e] at this;cases this
theorem Inv.bs(I:Inv X c_ Z H s):∀b o,X.base.get? b=some o->s.heap.get? b=some o/\H b=none:=λb o e=>
 ⟨I.base.keep b o (I.ok.bs b o e).1 (I.ok.bs b o e).2 (I.ok.MC e) (I.ok.tK b o e),I.base.free b o (I.ok.bs b o e).1 (I.ok.bs b o e).2 (I.ok.tK b o e)⟩
theorem Inv.bk(I:Inv X c_ Z H s):∀b o,X.base.get? b=some o->s.heap.get? b=some o:=λb o e=>(I.bs b o e).1
theorem Inv.mod(I:Inv X c_ Z H s):Mod X.K X.mg X.base:=I.ok.mod
theorem Inv.xM(I:Inv X c_ Z H s):X.K.In s.heap:=I.ok.mod.RZ.keeps I.bk
theorem Inv.lt(I:Inv X c_ Z H s):X.env.locals<s.heap.objs.size:=let ⟨_,hn,_⟩:=I.loc;hn.lt
theorem Inv.sz(I:Inv X c_ Z H s):X.s₀.heap.objs.size<=s.heap.objs.size:=aam I.ok.above (acI I.lt)
theorem Inv.SW(I:Inv X c_ Z H s){a:Addr}(h:s.heap.objs.size<=a):a∉X.fs:=λhb=>by
 obtain⟨_,o,ho,_⟩:=I.ok.uR.mem hb
 exact absurd (aaR (aaJ ho) (aam I.sz h)) (abu _)
theorem Inv.Pz(I:Inv X c_ Z H s):∀x c,X.env.cells.lookup x=some c->c≠X.env.locals:=λx c e z=>by
 obtain⟨v,o,ho,hd⟩:=I.cell x c e
 obtain⟨m,⟨o',es,ep,qf,Ur,_⟩,_⟩:=I.loc
 rw[z,qf] at ho;cases ho;rw[Ur] at hd;cases hd
theorem Inv.uR(I:Inv X c_ Z H s):s.heap.FunFrames X.base X.outer:=by
 have all:∀(l:List Env),(∀b∈uh l,b∈X.fs)->X.s₀.heap.FunFrames X.base l->s.heap.FunFrames X.base l:=by
  intro l
  induction l with
  | nil=>intro _ _;trivial
  | cons env r ih=>
   intro hs hl
   obtain⟨hk,⟨L,o,hf,hn,ho,hd⟩,hr⟩:=hl
   have hL:L∈X.fs:=hs L (by unfold uh;rw[abD,hf];exact aaC)
   obtain⟨sl,e⟩:=I.base.slot L o ho (I.ok.Ot L hL) hL λz=>I.ok.JF L z hL
   exact⟨hk,⟨L,_,hf,hn,e,hd⟩,ih (λb hb=>hs b (by unfold uh;rw[abD,hf];exact aal _ hb)) hr⟩
 exact all X.outer (λ_ hb=>hb) I.ok.uR
theorem Inv.stack(I:Inv X c_ Z H s):s.heap.FunFrames X.base X.stack:=by
 rcases I.ok.SV with e|⟨e,hf⟩
 ·rw[e];exact I.uR
 ·rw[e]
  obtain⟨m,hn,_⟩:=I.loc
  refine .cons (by rw[I.ok.kind];decide) hf hn ?_ I.uR
  exact Heap.get?_none_of_le (aam I.ok.MB I.ok.above)
theorem Inv.wz(I:Inv X c_ Z H s):∀b∈uh X.stack,b∈X.env.locals::X.fs:=λb hb=>by
 rcases I.ok.SV with e|⟨e,hf⟩
 ·rw[e] at hb;exact aal _ hb
 ·rw[e] at hb
  unfold uh at hb
  rw[abD,hf] at hb
  exact hb
theorem Inv.Cr(I:Inv X c_ Z H s):∀b∈uh X.stack,H b=none:=λb hb=>by
 rcases aag.mp (I.wz b hb) with e|hb
 ·rw[e];exact I.free
 ·obtain⟨_,o,ho,_⟩:=I.ok.uR.mem hb
  exact I.base.free b o ho (I.ok.Ot b hb) λz=>I.ok.JF b z hb
theorem Inv.step{g':Array GenState}{t':Nat}{d':Drawn}{ch:List Addr}(I:Inv X c_ Z H s)
  (Mo:∀b∈ch,(b∈X.ex\/X.s₀.heap.objs.size<=b)/\b≠X.env.locals/\(∀x c,X.env.cells.lookup x=some c->c≠b)/\∀p∈X.pn++c_,p.1≠b)
  (keep:∀b o,b≠X.env.locals->b∉X.fs->b∉ch->s.heap.get? b=some o->H b=none->h'.get? b=some o)
  (slot:∀b o,b≠X.env.locals->b∈X.fs->b∉ch->s.heap.get? b=some o->H b=none->∃sl,h'.get? b=some {o with slots:=sl}) (free:∀b o,b∉ch->s.heap.get? b=some o->H b=none->H' b=none)
  (there:∀b o,b∉ch->s.heap.get? b=some o->∃o',h'.get? b=some o')
  (qh:∀b xs,H b=some (.tup xs)->H' b=some (.tup xs)) (uQ:∀b o u,H b=some (.ni o u)->H' b=some (.ni o u)) (yM:∀b ps,H b=some (.Ml ps)->∃more,H' b=some (.Ml (ps++more)))
  (ns:∀m,s.heap.Ns X.env.locals m->h'.Ns X.env.locals m) (iK:rq X.prog X.w H' h') (hg:AllBare g') :
  Inv X c_ Z H' {s with heap:=h',gens:=g',drawn:=d',toks:=t'}:=by
 have neL:∀b o,X.s₀.heap.get? b=some o->b≠X.env.locals:=λb o e=>aa0 (aaR (aaJ e) I.ok.above)
 have Wk:∀b o,X.s₀.heap.get? b=some o->b∉X.ex->b∉ch:=λb o e hx hb=>by
  rcases(Mo b hb).1 with z|z
  ·exact hx z
  ·exact absurd (aaR (aaJ e) z) (abu _)
 have cellK:∀x c,X.env.cells.lookup x=some c->∀v,s.heap.IsCell c v->h'.IsCell c v:=λx c e v ⟨o,ho,hd⟩=>by
  have Us:c∉ch:=λz=>(Mo c z).2.2.1 x c e rfl
  by_cases hc:c∈X.fs
  ·obtain⟨sl,q⟩:=slot c o (I.Pz x c e) hc Us ho (I.pz x c e)
   exact⟨_,q,hd⟩
  ·exact⟨o,keep c o (I.Pz x c e) hc Us ho (I.pz x c e),hd⟩
 refine⟨I.ok,I.os,hg,⟨λb o e n hb hx=>?_,λb o e n hb hx=>?_,λb o e n hx=>?_,λb o e hx=>?_,λb xs e=>qh b xs (I.base.qh b xs e),λb o xs e=>uQ b o xs (I.base.uQ b o xs e),λb ps e=>?_⟩,?_,λx c e=>?_,?_,λx c e=>?_,λp hp=>?_,iK,I.len⟩
 ·exact keep b o (neL b o e) hb (Wk b o e hx) (I.base.keep b o e n hb hx) (I.base.free b o e n hx)
 ·obtain⟨sl,e1⟩:=I.base.slot b o e n hb hx
  obtain⟨sl',e2⟩:=slot b _ (neL b o e) hb (Wk b o e hx) e1 (I.base.free b o e n hx)
  exact⟨sl',e2⟩
 ·obtain⟨o',e1⟩:=I.base.there b o e hx
  exact free b o' (Wk b o e hx) e1 (I.base.free b o e n hx)
 ·obtain⟨o',e1⟩:=I.base.there b o e hx
  exact there b o' (Wk b o e hx) e1
 ·obtain⟨m1,e1⟩:=I.base.yM b ps e
  obtain⟨m2,e2⟩:=yM b _ e1
  exact⟨m1++m2,by rw[e2,Array.append_assoc]⟩
 ·obtain⟨m,hn,hl⟩:=I.loc
  refine⟨m,ns m hn,λi x v e1 e2 e3=>?_⟩
  obtain⟨u,r,l⟩:=hl i x v e1 e2 e3
  refine⟨u,r,?_⟩
  rcases l with l|⟨k,c,e,z⟩
  ·exact .inl l
  ·exact .inr ⟨k,c,e,cellK x c e _ z⟩
 ·obtain⟨v,z⟩:=I.cell x c e
  exact⟨v,cellK x c e v z⟩
 ·obtain⟨m,⟨o,_,_,ho,_⟩,_⟩:=I.loc
  exact free _ o (λz=>(Mo _ z).2.1 rfl) ho I.free
 ·obtain⟨v,o,ho,hd⟩:=I.cell x c e
  exact free c o (λz=>(Mo c z).2.2.1 x c e rfl) ho (I.pz x c e)
 ·obtain⟨e,n,ne,nf,d⟩:=I.pin p hp
  have Us:p.1∉ch:=λz=>(Mo p.1 z).2.2.2 p hp rfl
  exact⟨keep p.1 p.2 ne nf Us e n,free p.1 p.2 Us e n,ne,nf,d⟩
theorem Inv.un{t':Nat}(I:Inv X c_ Z H s)(u:Un X.fs [] H H' s.heap h')(iK:rq X.prog X.w H' h'):Inv X c_ Z H' {s with heap:=h',toks:=t'}:=by
 obtain⟨m,⟨o,es,ep,ho,r⟩,_⟩:=id I.loc
 obtain⟨sl,hL⟩:=u.any ho I.free (by simp)
 exact I.step (g':=s.gens) (d':=s.drawn) (ch:=[]) (λ_ z=>nomatch z) (λb o _ hb _ e n=>u.keep b o e n hb (by simp)) (λb o _ hb _ e n=>u.slot b o e n hb (by simp)) (λb o _ e n=>u.free b o e n (by simp)) (λb o _ e=>u.there b o e (by simp)) u.qh u.uQ u.yM (λm' hm=>by
  obtain⟨o',Sf,OS,qf,r'⟩:=hm
  rw[ho] at qf;cases qf
  exact⟨_,Sf,OS,hL,r'⟩) iK I.bare
theorem Inv.call{g':Array GenState}{t':Nat}{d':Drawn}{ch:List Addr}(I:Inv X c_ Z H s)(u:Un (uh X.stack) ch H H' s.heap h')(iK:rq X.prog X.w H' h')(hg:AllBare g')
  (Mo:∀b∈ch,(b∈X.ex\/X.s₀.heap.objs.size<=b)/\b≠X.env.locals/\(∀x c,X.env.cells.lookup x=some c->c≠b)/\∀p∈X.pn++c_,p.1≠b) :
  Inv X c_ Z H' {s with heap:=h',gens:=g',drawn:=d',toks:=t'}:=by
 obtain⟨m,⟨o,es,ep,ho,r⟩,_⟩:=id I.loc
 obtain⟨sl,hL⟩:=u.any ho I.free λz=>(Mo _ z).2.1 rfl
 exact I.step (ch:=ch) Mo (λb o hL hb hc e n=>u.keep b o e n (λz=>(aag.mp (I.wz b z)).elim hL hb) hc) (λb o _ _ hc e n=>u.any e n hc) (λb o hc e n=>u.free b o e n hc) (λb o hc e=>u.there b o e hc) u.qh u.uQ u.yM (λm' hm=>by
  obtain⟨o',Sf,OS,qf,r'⟩:=hm
  rw[ho] at qf;cases qf
  exact⟨_,Sf,OS,hL,r'⟩) iK hg
theorem Inv.turned{t':Nat}{it:Addr}(I:Inv X c_ Z H s)(k:∀b o,b≠it->s.heap.get? b=some o->h'.get? b=some o)(hn:H it=none)(hL:it≠X.env.locals)
  (h1:it∈X.ex\/X.s₀.heap.objs.size<=it) (h2:∀x c,X.env.cells.lookup x=some c->c≠it) (h3:∀p∈X.pn++c_,p.1≠it):Inv X c_ Z H {s with heap:=h',toks:=t'}:=by
 have nit:∀b u,H b=some u->b≠it:=λb u e z=>by rw[z,hn] at e;cases e
 refine I.step (g':=s.gens) (d':=s.drawn) (ch:=[it]) (λb hb=>?_) (λb o _ _ hc e _=>k b o (λz=>hc (by simp[z])) e) (λb o _ _ hc e _=>⟨o.slots,k b o (λz=>hc (by simp[z])) e⟩) (λ_ _ _ _ n=>n)
  (λb o hc e=>⟨o,k b o (λz=>hc (by simp[z])) e⟩) (λ_ _ e=>e) (λ_ _ _ e=>e) (λb ps e=>⟨#[],by rw[e];simp⟩) (λm hm=>?_) (λb u e=>?_) I.bare
 ·have e:b=it:=by simpa using hb
  subst e
  exact⟨h1,hL,h2,h3⟩
 ·obtain⟨o,es,ep,ho,r⟩:=hm
  exact⟨o,es,ep,k _ o (ab0 hL) ho,r⟩
 ·refine(I.iK b u e).zq (λc v hc q=>k c v ?_ q) (λ_ q=>q) λ_ _ q=>q
  rcases hc with z|z
  ·rw[z];exact nit b u e
  ·exact nit c _ z
theorem Inv.tok(I:Inv X c_ Z H s)(t:Nat):Inv X c_ Z H {s with toks:=t}:=I.un (h':=s.heap) (t':=t) Un.refl I.iK
theorem Inv.kept{t':Nat}(I:Inv X c_ Z H s)(k:∀b u,s.heap.get? b=some u->h'.get? b=some u):Inv X c_ Z H {s with heap:=h',toks:=t'}:=I.un (Un.kept k) (I.iK.kept k)
theorem Inv.laid{a:Addr}{o:HO}{t':Nat}(I:Inv X c_ Z H s)(k:∀b u,s.heap.get? b=some u->h'.get? b=some u)(hp:s.heap.objs.size<=a)(new:i0 X.prog X.w (upd H a o) h' a o) :
 Inv X c_ Z (upd H a o) {s with heap:=h',toks:=t'}:=I.un (Un.laid k hp (I.iK.fresh hp)) (I.iK.laid k hp new)
theorem Inv.write{x e:Addr}{o:HO}{t':Nat}(I:Inv X c_ Z H s)(mu:Oq (H x))(he:e=x\/H e=some (.own x))(k:∀b u,b≠e->s.heap.get? b=some u->h'.get? b=some u)(LJ:∃u,h'.get? e=some u)
 (new:i0 X.prog X.w (upd H x o) h' x o):Inv X c_ Z (upd H x o) {s with heap:=h',toks:=t'}:=I.un (Un.write mu he k LJ) (I.iK.write mu he k LJ new)
theorem Inv.y9{OT:Qqz}(I:Inv X c_ Z H s)(h:∀p∈OT,s.heap.get? p.1=some p.2/\H p.1=none/\p.1≠X.env.locals/\p.1∉X.fs/\∀v,p.2.data≠.cell v):Inv X OT Z H s:=
 ⟨I.ok,I.os,I.bare,I.base,I.loc,I.cell,I.free,I.pz,λp hp=>(aak.mp hp).elim (λz=>I.pin p (aaI _ z)) (h p),I.iK,I.len⟩
theorem D8{N:List Str}(hN:N.Nodup){i j:Nat}{x:Str}(a:N[i]?=some x)(b:N[j]?=some x):i=j:=by
 obtain⟨h1,e1⟩:=List.getElem?_eq_some_iff.mp a
 obtain⟨h2,e2⟩:=List.getElem?_eq_some_iff.mp b
 exact(List.getElem_inj hN).mp (e1.trans e2.symm)
theorem BC{M:Model}{A:Around}{E:Qqq}{i:Nat}{x:Str}{v:V}{u:Value}{Q:Unit->Shared->Prop}(I:Inv X c_ Z H s)(hN:X.N.Nodup)(hi:X.N[i]?=some x)(hx:Loc X.env.scope x)(r:RelV v u)
  (h:∀s',Inv X c_ (Z.set i (some v)) H s'->(∃a,Heap.SameBut a s.heap s'.heap/\(a=X.env.locals\/X.env.cells.lookup x=some a))->Q () s') (hf:X.fn x=true\/X.env.scope.names.lookup x=some .local:=by first|exact .inl rfl|exact .inr rfl|assumption):wpAny M A (storeName X.env x u) Q E s:=by
 obtain⟨m,hn,hl⟩:=id I.loc
 have Yl:(X.env.scope.kind ==.class||(X.env.scope.kind ==.module&&X.env.locals != X.env.globals))=false:=by rw[I.ok.kind];rfl
 have hiZ:i<Z.length:=by rw[I.len];exact(List.getElem?_eq_some_iff.mp hi).1
 have Pz:=I.Pz
 have tracked:∀{a:Addr} {h':Heap},(∃o,s.heap.get? a=some o/\H a=none)->Heap.SameBut a s.heap h'->rq X.prog X.w H h':=λ{a h'} ha hs b ob e=>by
  obtain⟨_,_,yI⟩:=ha
  refine(I.iK b ob e).zq (λc w' hc q=>(hs.2 c ?_).trans q) (λ_ q=>q) λ_ _ q=>q
  rintro rfl
  rcases hc with rfl|hc
  ·rw[yI] at e;cases e
  ·rw[yI] at hc;cases hc
 rcases hx with hk|hk
 ·refine wpAny_storeName_local hk hn (λh' Sg hs=>?_) Yl
  obtain⟨oL,_,_,Wl,_⟩:=id hn
  refine h _ ⟨I.ok,I.os,I.bare,⟨λb o e n hb hx=>?_,λb o e n hb hx=>?_,I.base.free,λb o e hx=>?_,I.base.qh,I.base.uQ,I.base.yM⟩,⟨_,Sg,λj y v' e1 e2 e3=>?_⟩,λy c e=>?_,I.free,I.pz,λp hp=>?_,tracked ⟨oL,Wl,I.free⟩ hs,by simpa using I.len⟩ ⟨_,hs,.inl rfl⟩
  ·exact(hs.2 b (aa0 (aaR (aaJ e) I.ok.above))).trans (I.base.keep b o e n hb hx)
  ·obtain⟨sl,e1⟩:=I.base.slot b o e n hb hx
   exact⟨sl,(hs.2 b (aa0 (aaR (aaJ e) I.ok.above))).trans e1⟩
  ·obtain⟨o',e1⟩:=I.base.there b o e hx
   exact⟨o',(hs.2 b (aa0 (aaR (aaJ e) I.ok.above))).trans e1⟩
  ·by_cases hj:j=i
   ·subst hj
    rw[hi] at e1;cases e1
    rw[abz hiZ] at e2
    cases e2
    exact⟨u,r,.inl ⟨hk,by simp⟩⟩
   ·rw[abI (ab0 hj)] at e2
    obtain⟨u',r',q⟩:=hl j y v' e1 e2 e3
    refine⟨u',r',?_⟩
    rcases q with⟨k,e⟩|⟨k,c,e,z⟩
    ·refine .inl ⟨k,?_⟩
     have:y≠x:=λe=>hj (D8 hN e1 (e▸hi))
     simp[this,e]
    ·exact .inr ⟨k,c,e,z.sameBut hs (Pz y c e)⟩
  ·obtain⟨w',z⟩:=I.cell y c e
   exact⟨w',z.sameBut hs (Pz y c e)⟩
  ·obtain⟨e,n,ne,nf,d⟩:=I.pin p hp
   exact⟨(hs.2 p.1 ne).trans e,n,ne,nf,d⟩
 ·have OU:X.fn x=true:=by
   rcases hf with z|z
   ·exact z
   ·rw[z] at hk;cases hk
  obtain⟨c,hc⟩:=I.ok.has x (.inl hk)
  obtain⟨w',z⟩:=I.cell x c hc
  refine wpAny_storeName_cell I.ok.kind hk hc z (λh' Bu hs=>?_)
  obtain⟨oc,hoc,Ym⟩:=id z
  refine h {s with heap:=h'} ⟨I.ok,I.os,I.bare,⟨λb o e n hb hx=>?_,λb o e n hb hx=>?_,I.base.free,λb o e hx=>?_,I.base.qh,I.base.uQ,I.base.yM⟩,⟨m,hn.sameBut hs (ab0 (Pz x c hc)),λj y v' e1 e2 e3=>?_⟩,λy c' e=>?_,I.free,I.pz,λp hp=>?_,tracked ⟨oc,hoc,I.pz x c hc⟩ hs,by simpa using I.len⟩ ⟨c,hs,.inr hc⟩
  ·exact(hs.2 b (aa0 (aaR (aaJ e) (I.ok.R0 x c OU hc)))).trans (I.base.keep b o e n hb hx)
  ·obtain⟨sl,e1⟩:=I.base.slot b o e n hb hx
   exact⟨sl,(hs.2 b (aa0 (aaR (aaJ e) (I.ok.R0 x c OU hc)))).trans e1⟩
  ·obtain⟨o',e1⟩:=I.base.there b o e hx
   exact⟨o',(hs.2 b (aa0 (aaR (aaJ e) (I.ok.R0 x c OU hc)))).trans e1⟩
  ·by_cases hj:j=i
   ·subst hj
    rw[hi] at e1;cases e1
    rw[abz hiZ] at e2
    cases e2
    exact⟨u,r,.inr ⟨.inl hk,c,hc,Bu⟩⟩
   ·rw[abI (ab0 hj)] at e2
    obtain⟨u',r',q⟩:=hl j y v' e1 e2 e3
    refine⟨u',r',?_⟩
    rcases q with q|⟨k,c',e,z'⟩
    ·exact .inl q
    ·refine .inr ⟨k,c',e,z'.sameBut hs ?_⟩
     rintro rfl
     exact hj (D8 hN e1 (I.ok.inj _ _ _ e hc▸hi))
  ·by_cases Sh:c'=c
   ·subst Sh;exact⟨_,Bu⟩
   ·obtain⟨w2,z2⟩:=I.cell y c' e
    exact⟨w2,z2.sameBut hs Sh⟩
  ·obtain⟨e,n,ne,nf,d⟩:=I.pin p hp
   refine⟨(hs.2 p.1 ?_).trans e,n,ne,nf,d⟩
   intro q
   rw[q,hoc] at e
   have q':oc=p.2:=aaE e
   exact d w' (by rw[<-q'];exact Ym)
theorem D9{M:Model}{A:Around}{E:Qqq}{i:Nat}{x:Str}{v:V}{u:Value}{Q:Unit->Shared->Prop}(I:Inv X c_ Z H s)(hN:X.N.Nodup)(hi:X.N[i]?=some x)(hx:Loc X.env.scope x)(r:RelV v u)
  (h:∀s',Inv X c_ (Z.set i (some v)) H s'->Q () s') (hf:X.fn x=true\/X.env.scope.names.lookup x=some .local:=by first|exact .inl rfl|exact .inr rfl|assumption):wpAny M A (storeName X.env x u) Q E s:=
 BC I hN hi hx r (λs' I' _=>h s' I') hf
theorem Inv.SX{s':Shared}{ch:List Addr}(I:Inv X c_ Z H s)(ho:s'.os=s.os)(u:Un (uh X.stack) ch H H' s.heap s'.heap)(iK:rq X.prog X.w H' s'.heap)(hg:AllBare s'.gens)
  (Mo:∀b∈ch,(b∈X.ex\/X.s₀.heap.objs.size<=b)/\b≠X.env.locals/\(∀x c,X.env.cells.lookup x=some c->c≠b)/\∀p∈X.pn++c_,p.1≠b):Inv X c_ Z H' s':=by
 obtain⟨h',g',d',t',o'⟩:=s'
 have e:o'=s.os:=ho
 subst e
 exact I.call (g':=g') (t':=t') (d':=d') u iK hg Mo
end
abbrev XK:=Value->Option Addr->Hp->Prop
abbrev St:=List (Option V)
abbrev VK:=V->Hp->Prop
abbrev TE:=St->Hp->VK->Prop
abbrev TT:=St->Hp->(Bool->Hp->Prop)->Prop
abbrev TA:=St->Hp->(List V->Hp->Prop)->Prop
structure Ends where
 nx:St->Hp->Prop
 rt:VK
 bk:St->Hp->Prop:=λ_ _=>False
 ct:St->Hp->Prop:=λ_ _=>False
abbrev TS:=Ends->St->Hp->Prop
def EP(X:Cx)(c_:Qqz)(Z:St)(Q:VK)(u:Value)(s':Shared):Prop:=∃v H',Inv X c_ Z H' s'/\RelV v u/\Q v H'
def TP(X:Cx)(c_:Qqz)(Z:St)(Q:Bool->Hp->Prop)(b:Bool)(s':Shared):Prop:=∃H',Inv X c_ Z H' s'/\Q b H'
def AP(X:Cx)(c_:Qqz)(Z:St)(Q:List V->Hp->Prop)(us:List Value)(s':Shared):Prop:=∃vs H',Inv X c_ Z H' s'/\Vals vs us/\Q vs H'
def SP(X:Cx)(c_:Qqz)(D:Ends)(f:Flow)(s':Shared):Prop:=
 match f with
 | .next=>∃Z' H',Inv X c_ Z' H' s'/\D.nx Z' H'
 | .brk=>∃Z' H',Inv X c_ Z' H' s'/\D.bk Z' H'
 | .cont=>∃Z' H',Inv X c_ Z' H' s'/\D.ct Z' H'
 | .ret u=>∃v Z' H',Inv X c_ Z' H' s'/\RelV v u/\D.rt v H'
def PE(X:Cx)(e:Expr)(t:TE):Prop:=
 ∀(c_:Qqz)(s:Shared)(Z:St)(H:Hp)(Q:VK),Inv X c_ Z H s->t Z H Q->wpAny (model X.prog X.w) X.A (eval e X.env) (EP X c_ Z Q) X.xe s
def PT(X:Cx)(e:Expr)(t:TT):Prop:=
 ∀(c_:Qqz)(s:Shared)(Z:St)(H:Hp)(Q:Bool->Hp->Prop),Inv X c_ Z H s->t Z H Q->wpAny (model X.prog X.w) X.A (isTrue e X.env (eval e X.env)) (TP X c_ Z Q) X.xe s
def PW(X:Cx)(e:Expr)(t:TT):Prop:=
 ∀(whole:Sem Value)(c_:Qqz)(s:Shared)(Z:St)(H:Hp)(Q:Bool->Hp->Prop),Inv X c_ Z H s->t Z H Q->wpAny (model X.prog X.w) X.A (isTrue e X.env whole) (TP X c_ Z Q) X.xe s
theorem PW.pt{X:Cx}{e:Expr}{t:TT}(h:PW X e t):PT X e t:=h _
def PA(X:Cx)(es:List Expr)(t:TA):Prop:=
 ∀(pos:Pos)(c_:Qqz)(s:Shared)(Z:St)(H:Hp)(Q:List V->Hp->Prop),Inv X c_ Z H s->t Z H Q->wpAny (model X.prog X.w) X.A (spliced (backTo pos (starEach es X.env))) (AP X c_ Z Q) X.xe s
def PS(X:Cx)(st:Stmt)(t:TS):Prop:=
 ∀(c_:Qqz)(s:Shared)(Z:St)(H:Hp)(D:Ends),Inv X c_ Z H s->t D Z H->wpAny (model X.prog X.w) X.A (exec st X.env) (SP X c_ D) X.xe s
def FL(X:Cx)(st:List Stmt)(t:TS):Prop:=
 ∀(c_:Qqz)(s:Shared)(Z:St)(H:Hp)(D:Ends),Inv X c_ Z H s->t D Z H->wpAny (model X.prog X.w) X.A (execs st X.env) (SP X c_ D) X.xe s
theorem i3{Z:Type}{t:Sem Z}{Q Q':Z->Shared->Prop}{M:Model}{A:Around}{E:Qqq}{s:Shared}(h:wpAny M A t Q E s)(hQ:∀a s,Q a s->Q' a s):wpAny M A t Q' E s:=abJ h hQ λ_ _ x=>x
section
variable{X:Cx}
def SY(i:Nat):TE:=λZ H Q=>∃v,Z[i]?=some (some v)/\Q v H
def tC(v:V):TE:=λ_ H Q=>Q v H
theorem PB{i:Nat}{x:Str}{pos:Pos}(hN:X.N[i]?=some x)(hv:Xg X.env.scope x)(hd:(x ==("__debug__":Str))=false:=by decide)(Cn:(x ==("__classdict__":Str))=false:=by decide):PE X (.Name x pos) (SY i):=by
 intro c_ s Z H Q I h
 obtain⟨v,e,h⟩:=h
 obtain⟨m,hn,hl⟩:=I.loc
 obtain⟨u,r,l⟩:=hl i x v hN e hv
 have fin:EP X c_ Z Q u s:=⟨v,H,I,r,h⟩
 rcases l with⟨hk,hm⟩|⟨hk,c,hc,OV⟩
 ·exact wpAny_Name (wpAny_loadName_local I.ok.kind hk hn hm fin) hd
 ·rcases hk with hk|hk
  ·exact wpAny_Name (wpAny_loadName_cell I.ok.kind hk hc OV fin) hd
  ·exact wpAny_Name (wpAny_loadName_free I.ok.kind hk hc OV fin Cn) hd
theorem f_{i j pos}:PE X (.Constant (.int i) j pos) (tC (.int i)):=λ_ _ _ H _ I h=>wpAny_Constant_int ⟨.int i,H,I.tok _,⟨_,rfl⟩,h⟩
theorem kc{b j pos}:PE X (.Constant (.bool b) j pos) (tC (.bl b)):=λ_ _ _ H _ I h=>Constant_bool ⟨.bl b,H,I,rfl,h⟩
theorem ui{j pos}:PE X (.Constant .none j pos) (tC .jc):=λ_ _ _ H _ I h=>Constant_none ⟨.jc,H,I,rfl,h⟩
theorem i5{x j pos}:PE X (.Constant (.str x) j pos) (tC (.str x)):=λ_ _ _ H _ I h=>Calls.Constant_str ⟨.str x,H,I.tok _,⟨_,rfl⟩,h⟩
def Gl(X:Cx)(x:Str):Prop:=X.env.kindOf x=some .globalImplicit
theorem uS{E:Qqq}{c_:Qqz}{s:Shared}{Z:St}{H:Hp}{x:Str}{u:Value}{pos:Pos}{Q:Qqq}(I:Inv X c_ Z H s)(hg:Gl X x)(hm:X.mg x=some u)(h:Q u s)
  (hd:(x ==("__debug__":Str))=false:=by decide):wpAny (model X.prog X.w) X.A (eval (.Name x pos) X.env) Q E s:=
 Calls.Name_function_global I.ok.kind hg (Calls.loadGlobal_global (by rw[I.ok.glob];exact I.mod.glob.keeps I.bk) hm h) hd
theorem oZ{E:Qqq}{c_:Qqz}{s:Shared}{Z:St}{H:Hp}{x:Str}{u:Value}{pos:Pos}{Q:Qqq}(I:Inv X c_ Z H s)(hg:Gl X x)(hm:X.mg x=none)(hv:bootBuiltins x=some u)(h:Q u s)
  (hn:x≠"__name__":=by decide) (hd:(x ==("__debug__":Str))=false:=by decide):wpAny (model X.prog X.w) X.A (eval (.Name x pos) X.env) Q E s:=by
 obtain⟨mb,h1,h2⟩:=I.mod.blt
 exact Calls.Name_function_global I.ok.kind hg (Calls.loadGlobal_builtin (by rw[I.ok.glob];exact I.mod.glob.keeps I.bk) hm (by rw[I.ok.blt];exact h1.keeps I.bk) ((h2 x hn).trans hv) h) hd
theorem Cs{x:Str}{v:V}{u:Value}{pos:Pos}(hg:Gl X x)(hm:X.mg x=some u)(r:RelV v u)(hd:(x ==("__debug__":Str))=false:=by decide):PE X (.Name x pos) (tC v):=
 λ_ _ _ H _ I h=>uS I hg hm ⟨v,H,I,r,h⟩ hd
theorem ow{x:Str}{v:V}{u:Value}{pos:Pos}(hg:Gl X x)(hm:X.mg x=none)(hv:bootBuiltins x=some u)(r:RelV v u)(hn:x≠"__name__":=by decide)(hd:(x ==("__debug__":Str))=false:=by decide):PE X (.Name x pos) (tC v):=
 λ_ _ _ H _ I h=>oZ I hg hm hv ⟨v,H,I,r,h⟩ hn hd
variable{a b:Expr}{ta tb:TE}{pos:Pos}
def PC(X:Cx)(op:CmpOp)(a b:Expr)(t:TE):Prop:=
 ∀(c_:Qqz)(s:Shared)(Z:St)(H:Hp)(Q:VK),Inv X c_ Z H s->t Z H Q->
  wpAny (model X.prog X.w) X.A (eval a X.env) (λv s1=>wpAny (model X.prog X.w) X.A (eval b X.env) (λu s2=>wpAny (model X.prog X.w) X.A (compareOp op v u) (EP X c_ Z Q) X.xe s2) X.xe s1) X.xe s
theorem D_(b:Expr){op:CmpOp}(h:op≠.In)(h2:op≠.NotIn):behindInMarks op b=false:=by
 have e1:(op ==CmpOp.In)=false:=by cases op<;>first|rfl|exact absurd rfl h
 have e2:(op ==CmpOp.NotIn)=false:=by cases op<;>first|rfl|exact absurd rfl h2
 cases b<;>simp[behindInMarks,e1,e2]
def S3(ta:TE):TE:=λZ H Q=>ta Z H λx H1=>Q (.bl (!decide (x=.jc))) H1
theorem RelV.JG{x:V}{v:Value}(r:RelV x v):(v ==Value.none)=decide (x=.jc):=by
 cases x with
 | jc=>cases r;rfl
 | bl _=>cases r;rfl
 | int _=>obtain⟨t,rfl⟩:=r;rfl
 | str _=>obtain⟨t,rfl⟩:=r;rfl
 | D7 _=>obtain⟨t,rfl⟩:=r;rfl
 | Mj _=>obtain⟨t,rfl⟩:=r;rfl
 | ref _=>cases r;rfl
 | ty _=>cases r;rfl
theorem s_{j pos'}(ha:PE X a ta):PC X .IsNot a (.Constant .none j pos') (S3 ta):=by
 intro c_ s Z H Q I h
 refine i3 (ha c_ s Z H _ I h) λv s1 iH=>?_
 obtain⟨x,H1,I1,r1,q1⟩:=iH
 exact Constant_none (isnot_none_gen ⟨.bl _,H1,I1,by rw[r1.JG];rfl,q1⟩)
def tB(t:TE):TT:=λZ H Q=>t Z H λx H1=>∃c,x=.bl c/\Q c H1
theorem PD{op:CmpOp}{t:TE}(h:PC X op a b t)(h1:behindInMarks op b=false:=by first|exact D_ _ (by decide) (by decide)|rfl):PE X (.Compare a [op] [b] pos) t:=λc_ s Z H Q I hw=>wpAny_Compare1 (h c_ s Z H Q I hw) h1
theorem jv{op:CmpOp}{t:TE}(h:PC X op a b t)(h1:behindInMarks op b=false:=by first|exact D_ _ (by decide) (by decide)|rfl):PT X (.Compare a [op] [b] pos) (tB t):=by
 intro c_ s Z H Q I hw
 refine wpAny_isTrue_Compare1 (i3 (h c_ s Z H _ I hw) λv s1 h1=>i3 h1 λu s2 h2=>i3 h2 λc s3 iH=>?_) h1
 obtain⟨x,H1,I1,r1,q1⟩:=iH
 obtain⟨d,rfl,q⟩:=q1
 cases r1
 exact abM ⟨H1,I1,q⟩
theorem lx{e:Expr}{t:TE}(h:PE X e t)(he:∀whole,isTrue e X.env whole=(do let v <-whole;standAt e.pos;holding [v] (truthy v)):=by intro _;rfl):PT X e (tB t):=by
 intro c_ s Z H Q I hw
 refine isTrue_plain (i3 (h c_ s Z H _ I hw) λv s1 iH=>?_) (he _)
 obtain⟨x,H1,I1,r1,q1⟩:=iH
 obtain⟨d,rfl,q⟩:=q1
 cases r1
 exact abM ⟨H1,I1,q⟩
variable{tA Wm:TT}{rest:List Expr}
def Xi(t u:TT):TT:=λZ H Q=>t Z H λc H1=>if c=true then u Z H1 Q else Q false H1
def tOr(t u:TT):TT:=λZ H Q=>t Z H λc H1=>if c=true then Q true H1 else u Z H1 Q
def Xj(t:TT):TT:=λZ H Q=>t Z H λc H1=>Q (!c) H1
theorem pw_and1(ha:PT X a tA):PW X (.BoolOp .And [a] pos) tA:=by
 intro wh c_ s Z H Q I h
 refine isTrue_and (i3 (ha c_ s Z H Q I h) λc s1 e=>?_)
 cases c with
 | true=>exact isTrue_and_nil e
 | false=>exact e
theorem pw_or1(ha:PT X a tA):PW X (.BoolOp .Or [a] pos) tA:=by
 intro wh c_ s Z H Q I h
 refine isTrue_or (i3 (ha c_ s Z H Q I h) λc s1 e=>?_)
 cases c with
 | false=>exact isTrue_or_nil e
 | true=>exact e
theorem pw_and(ha:PT X a tA)(hb:PW X (.BoolOp .And (b::rest) pos) Wm):PW X (.BoolOp .And (a::b::rest) pos) (Xi tA Wm):=by
 intro wh c_ s Z H Q I h
 refine isTrue_and (i3 (ha c_ s Z H _ I h) λc s1 iH=>?_)
 obtain⟨H1,I1,q1⟩:=iH
 cases c with
 | true=>exact hb wh c_ s1 Z H1 Q I1 q1
 | false=>exact⟨H1,I1,q1⟩
theorem pw_or(ha:PT X a tA)(hb:PW X (.BoolOp .Or (b::rest) pos) Wm):PW X (.BoolOp .Or (a::b::rest) pos) (tOr tA Wm):=by
 intro wh c_ s Z H Q I h
 refine isTrue_or (i3 (ha c_ s Z H _ I h) λc s1 iH=>?_)
 obtain⟨H1,I1,q1⟩:=iH
 cases c with
 | true=>exact⟨H1,I1,q1⟩
 | false=>exact hb wh c_ s1 Z H1 Q I1 q1
theorem kC(ha:PT X a tA):PT X (.UnaryOp .Not a pos) (Xj tA):=by
 intro c_ s Z H Q I h
 exact isTrue_not (ha c_ s Z H (λc H1=>Q (!c) H1) I h)
def S4(ta tb:TE):TE:=λZ H Q=>ta Z H λx H1=>∃c,x=.bl c/\if c=true then tb Z H1 Q else Q (.bl false) H1
def S5(ta:TE):TE:=λZ H Q=>ta Z H λx H1=>∃c,x=.bl c/\Q (.bl (!c)) H1
theorem PH{op}{t:TE}(h:PE X a t):PE X (.BoolOp op [a] pos) t:=λc_ s Z H Q I hw=>BoolOp_one (h c_ s Z H Q I hw)
theorem PJ(ha:PE X a ta)(hb:PE X (.BoolOp .And (b::rest) pos) tb):PE X (.BoolOp .And (a::b::rest) pos) (S4 ta tb):=by
 intro c_ s Z H Q I h
 refine BoolOp_and (i3 (ha c_ s Z H _ I h) λv s1 iH=>?_)
 obtain⟨x,H1,I1,r1,q1⟩:=iH
 obtain⟨c,rfl,q1⟩:=q1
 cases r1
 refine abM ?_
 cases c with
 | true=>exact hb c_ s1 Z H1 Q I1 q1
 | false=>exact⟨.bl false,H1,I1,rfl,q1⟩
theorem PL(ha:PE X a ta):PE X (.UnaryOp .Not a pos) (S5 ta):=by
 intro c_ s Z H Q I h
 refine UnaryOp_ (i3 (ha c_ s Z H _ I h) λv s1 iH=>?_)
 obtain⟨x,H1,I1,r1,q1⟩:=iH
 obtain⟨c,rfl,q1⟩:=q1
 cases r1
 exact not_of (abM ⟨.bl (!c),H1,I1,rfl,q1⟩)
end
def gC(K:Qqy)(H:Hp)(a:Addr)(xs:List V):Prop:=
 Rd H a (.lst xs)\/
  ∃(o:Obj)(hE:Array Value)(n:Nat),K.lookup a=some o/\o.cls=.type "list"/\o.dict=none/\o.data=.seq hE n/\hE.size<=sizeLine/\Vals xs hE.toList
def ox(K:Qqy)(H:Hp)(a:Addr)(xs:List V):Prop:=
 Rd H a (.tup xs)\/
  ∃(o:Obj)(hE:Array Value)(n:Nat),K.lookup a=some o/\o.cls=.type "tuple"/\o.data=.seq hE n/\hE.size<=sizeLine/\Vals xs hE.toList
noncomputable def Xk:Value->Option V
 | .none=>some .jc
 | .bool b=>some (.bl b)
 | .int i _=>some (.int i)
 | .str x _=>some (.str x)
 | .bytes b _=>some (.D7 b)
 | .float b _=>some (.Mj b)
 | .ref a=>some (.ref a)
 | .type n=>some (.ty n)
 | _=>none
theorem RelV.abs{x:V}{u:Value}(r:RelV x u):Xk u=some x:=by
 cases x with
 | jc=>cases r;rfl
 | bl _=>cases r;rfl
 | int _=>obtain⟨t,rfl⟩:=r;rfl
 | str _=>obtain⟨t,rfl⟩:=r;rfl
 | D7 _=>obtain⟨t,rfl⟩:=r;rfl
 | Mj _=>obtain⟨t,rfl⟩:=r;rfl
 | ref _=>cases r;rfl
 | ty _=>cases r;rfl
theorem RelV.inj{x y:V}{u:Value}(r:RelV x u)(q:RelV y u):x=y:=aaE (r.abs.symm.trans q.abs)
theorem Vals.inj:∀{xs ys:List V} {us:List Value},Vals xs us->Vals ys us->xs=ys
 | _,_,_,.nil,.nil=>rfl
 | _,_,_,.cons r t,.cons r' t'=>by rw[r.inj r',Vals.inj t t']
section
variable{X:Cx}{c_:Qqz}{Z:St}{H:Hp}{s:Shared}{a:Addr}{xs ys:List V}
theorem gC.of{K:Qqy}(h:H a=some (.lst xs)):gC K H a xs:=.inl (.inl h)
theorem ox.of{K:Qqy}(h:H a=some (.tup xs)):ox K H a xs:=.inl (.inl h)
theorem Inv.list(I:Inv X c_ Z H s)(h:gC X.K H a xs):∃hE:List Value,Vals xs hE/\PlainL s.heap a hE.toArray/\xs.length<=sizeLine:=by
 rcases h with h|⟨o,hE,n,hk,hc,hd,hs,hz,r⟩
 ·obtain⟨z,hE,n,r,e⟩:=h.ok I.iK
  exact⟨hE,r,⟨_,n,e,rfl,rfl,rfl⟩,z⟩
 ·refine⟨hE.toList,r,⟨o,n,I.xM a o hk,hc,hd,by simpa using hs⟩,?_⟩
  have e:=r.length
  simp only [aa3] at e
  omega
theorem Inv.tuple(I:Inv X c_ Z H s)(h:ox X.K H a xs):∃hE:List Value,Vals xs hE/\IsTup s.heap a hE.toArray/\xs.length<=sizeLine:=by
 rcases h with h|⟨o,hE,n,hk,hc,hs,hz,r⟩
 ·obtain⟨z,hE,r,p⟩:=h.ok I.iK
  exact⟨hE,r,p,z⟩
 ·refine⟨hE.toList,r,⟨o,I.xM a o hk,hc,n,by simpa using hs⟩,?_⟩
  have e:=r.length
  simp only [aa3] at e
  omega
theorem Inv.pA(I:Inv X c_ Z H s)(h:gC X.K H a xs)(h':gC X.K H a ys):xs=ys:=by
 obtain⟨hE,r,⟨o,n,e,_,_,d⟩,_⟩:=I.list h
 obtain⟨its',r',⟨o',n',e',_,_,d'⟩,_⟩:=I.list h'
 rw[e] at e';cases e'
 rw[d] at d'
 injection d' with d1 _
 have:hE=its':=by simpa using abd Array.toList d1
 subst this
 exact r.inj r'
theorem Inv.Ih(I:Inv X c_ Z H s)(h:ox X.K H a xs)(h':ox X.K H a ys):xs=ys:=by
 obtain⟨hE,r,⟨o,e,_,n,d⟩,_⟩:=I.tuple h
 obtain⟨its',r',⟨o',e',_,n',d'⟩,_⟩:=I.tuple h'
 rw[e] at e';cases e'
 rw[d] at d'
 injection d' with d1 _
 have:hE=its':=by simpa using abd Array.toList d1
 subst this
 exact r.inj r'
end
noncomputable abbrev Cx.A8(X:Cx)(E:Qqq):Cx:={X with xe:=E}
noncomputable abbrev Cx.S6(X:Cx):Cx:=X.A8 λ_ _=>False
theorem Cx.Ok.A8{X:Cx}(ok:X.Ok)(E:Qqq):(X.A8 E).Ok:=
 ⟨ok.mod,ok.kind,ok.glob,ok.blt,ok.above,ok.inj,ok.has,ok.R0,ok.hd,ok.frames,ok.SV,ok.Xh,ok.bs,ok.MB,ok.tK,ok.JF,ok.uR,ok.Ot⟩
theorem Cx.Ok.rD{X:Cx}{E:Qqq}(ok:(X.A8 E).Ok):X.Ok:=
 ⟨ok.mod,ok.kind,ok.glob,ok.blt,ok.above,ok.inj,ok.has,ok.R0,ok.hd,ok.frames,ok.SV,ok.Xh,ok.bs,ok.MB,ok.tK,ok.JF,ok.uR,ok.Ot⟩
section
variable{X:Cx}{c_:Qqz}{Z:St}{H:Hp}{s:Shared}{E:Qqq}
theorem Inv.A8(I:Inv X c_ Z H s)(E:Qqq):Inv (X.A8 E) c_ Z H s:=⟨I.ok.A8 E,I.os,I.bare,I.base,I.loc,I.cell,I.free,I.pz,I.pin,I.iK,I.len⟩
theorem Inv.rD(I:Inv (X.A8 E) c_ Z H s):Inv X c_ Z H s:=⟨I.ok.rD,I.os,I.bare,I.base,I.loc,I.cell,I.free,I.pz,I.pin,I.iK,I.len⟩
theorem SP.rD{D:Ends}{f:Flow}{s':Shared}(h:SP (X.A8 E) c_ D f s'):SP X c_ D f s':=by
 cases f with
 | next=>obtain⟨Z',H',I,q⟩:=h;exact⟨Z',H',I.rD,q⟩
 | brk=>obtain⟨Z',H',I,q⟩:=h;exact⟨Z',H',I.rD,q⟩
 | cont=>obtain⟨Z',H',I,q⟩:=h;exact⟨Z',H',I.rD,q⟩
 | ret u=>obtain⟨v,Z',H',I,r,q⟩:=h;exact⟨v,Z',H',I.rD,r,q⟩
theorem FL.S6{st:List Stmt}{t:TS}(h:FL X.S6 st t):FL X st t:=λc_ s Z H D I hw=>
 abJ (h c_ s Z H D (I.A8 _) hw) (λ_ _ q=>q.rD) λ_ _ z=>False.elim z
end
section
variable{X:Cx}{st:Stmt}{rest:List Stmt}{t u:TS}{e:Expr}{te:TE}{pos:Pos}
def S7:TS:=λD Z H=>D.nx Z H
def iR(t u:TS):TS:=λD Z H=>t {D with nx:=u D} Z H
theorem hU:FL X [] S7:=λ_ _ Z H _ I h=>wpAny_execs_nil ⟨Z,H,I,h⟩
theorem de(h1:PS X st t)(h2:FL X rest u):FL X (st::rest) (iR t u):=by
 intro c_ s Z H D I h
 refine wpAny_execs_cons (i3 (h1 c_ s Z H {D with nx:=u D} I h) λf s1 q=>?_)
 cases f with
 | next=>
  obtain⟨Z',H',I',q⟩:=q
  exact h2 c_ s1 Z' H' D I' q
 | ret v=>exact q
 | brk=>exact q
 | cont=>exact q
theorem fR(h1:PS X st t):FL X [st] t:=by
 intro c_ s Z H D I h
 refine wpAny_execs_cons (i3 (h1 c_ s Z H D I h) λf s1 q=>?_)
 cases f with
 | next=>exact wpAny_execs_nil q
 | ret v=>exact q
 | brk=>exact q
 | cont=>exact q
def S8:TS:=λD Z H=>D.ct Z H
theorem Ea:PS X (.Continue pos) S8:=λ_ _ Z H _ I h=>wpAny_Continue ⟨Z,H,I,h⟩
theorem Inv.quiet{c_:Qqz}{Z:St}{H:Hp}{s:Shared}(I:Inv X c_ Z H s):interactive X.env=false:=by simp[interactive,I.ok.kind]
def S9(te:TE):TS:=λD Z H=>te Z H λ_ H1=>D.nx Z H1
theorem hV(he:PE X e te)(hs:swapsWith e none pos.line X.env=pure false:=by rfl):PS X (.Expr e pos) (S9 te):=by
 intro c_ s Z H D I h
 exact wpAny_Expr_any (i3 (he c_ s Z H _ I h) λv s1 ⟨x,H1,I1,r1,q1⟩=>⟨Z,H1,I1,q1⟩) I.quiet hs
def Xl(te:TE):TS:=λD Z H=>te Z H D.rt
theorem hG(he:PE X e te):PS X (.Return (some e) pos) (Xl te):=by
 intro c_ s Z H D I h
 exact wpAny_Return_some (i3 (he c_ s Z H _ I h) λv s1 ⟨x,H1,I1,r1,q1⟩=>⟨x,Z,H1,I1,r1,q1⟩)
def Xm(c:TT)(t u:TS):TS:=λD Z H=>c Z H λb H1=>if b=true then t D Z H1 else u D Z H1
theorem ip{c:Expr}{a b:List Stmt}{tc:TT}(hc:PT X c tc)(ha:FL X a t)(hb:FL X b u):PS X (.If c a b pos) (Xm tc t u):=by
 intro c_ s Z H D I h
 refine wpAny_If (i3 (hc c_ s Z H _ I h) λd s1 iH=>?_)
 obtain⟨H1,I1,q1⟩:=iH
 cases d with
 | true=>exact ha c_ s1 Z H1 D I1 q1
 | false=>exact hb c_ s1 Z H1 D I1 q1
end
abbrev TG:=V->St->Hp->(St->Hp->Prop)->Prop
abbrev PN:=List V->St->Hp->(St->Hp->Prop)->Prop
def PG(X:Cx)(target:Expr)(t:TG):Prop:=
 ∀(c_:Qqz)(s:Shared)(Z:St)(H:Hp)(v:V)(u:Value)(Q:St->Hp->Prop),Inv X c_ Z H s->RelV v u->t v Z H Q->
  wpAny (model X.prog X.w) X.A (assign target X.env u) (λ_ s'=>∃Z' H',Inv X c_ Z' H' s'/\Q Z' H') X.xe s
def Wa(X:Cx)(ts:List Expr)(t:PN):Prop:=
 ∀(c_:Qqz)(s:Shared)(Z:St)(H:Hp)(vs:List V)(us:List Value)(Q:St->Hp->Prop),Inv X c_ Z H s->Vals vs us->t vs Z H Q->
  wpAny (model X.prog X.w) X.A (assignInOrder ((assignEach ts X.env).map (·.2)) us) (λ_ s'=>∃Z' H',Inv X c_ Z' H' s'/\Q Z' H') X.xe s
abbrev PQ:=V->V->V->Hp->(Hp->Prop)->Prop
def S_(X:Cx)(t:PQ):Prop:=
 ∀(c_:Qqz)(s:Shared)(Z:St)(H:Hp)(o i v:V)(ov iv u:Value)(Q:Hp->Prop),Inv X c_ Z H s->RelV o ov->RelV i iv->RelV v u->t o i v H Q->
  wpAny (model X.prog X.w) X.A (setItem ov iv u) (λ_ s'=>∃H',Inv X c_ Z H' s'/\Q H') X.xe s
section
variable{X:Cx}{pos:Pos}
def l7(i:Nat):TG:=λv Z H Q=>Q (Z.set i (some v)) H
theorem iu{i:Nat}{x:Str}(hN:X.N.Nodup)(hi:X.N[i]?=some x)(hx:Loc X.env.scope x)(hf:X.fn x=true\/X.env.scope.names.lookup x=some .local:=by first|exact .inl rfl|exact .inr rfl|assumption):PG X (.Name x pos) (l7 i):=by
 intro c_ s Z H v u Q I r h
 exact wpAny_assign_Name (D9 I hN hi hx r (λs' I'=>⟨_,H,I',h⟩) hf)
def Xn:PN:=λvs Z H Q=>vs=[]/\Q Z H
def Ta(t:TG)(u:PN):PN:=λvs Z H Q=>∃v r,vs=v::r/\t v Z H λZ' H'=>u r Z' H' Q
theorem Hg:Wa X [] Xn:=by
 intro c_ s Z H vs us Q I r h
 obtain⟨e,h⟩:=h
 subst e
 cases r
 exact assignInOrder_nil ⟨Z,H,I,h⟩
theorem uT{e:Expr}{es:List Expr}{t:TG}{u:PN}(h1:PG X e t)(h2:Wa X es u)
  (hs:(assignEach (e::es) X.env).map (·.2)=assign e X.env::(assignEach es X.env).map (·.2):=by rfl):Wa X (e::es) (Ta t u):=by
 intro c_ s Z H vs us Q I r h
 obtain⟨v,vr,e1,h⟩:=h
 subst e1
 cases r with
 | cons r rr=>
  rw[hs]
  refine assignInOrder_cons (i3 (h1 c_ s Z H _ _ _ I r h) λ_ s1 iH=>?_)
  obtain⟨Z1,H1,I1,q1⟩:=iH
  exact h2 c_ s1 Z1 H1 _ _ Q I1 rr q1
def Xo(K:Qqy)(n:Nat)(t:PN):TG:=λv Z H Q=>∃a xs,v=.ref a/\ox K H a xs/\xs.length=n/\t xs Z H Q
theorem JH{es:List Expr}{k:Nat}{t:PN}{n:Nat}(hc:X.calm=true)(h:Wa X es t)
  (hn:(assignEach es X.env).length=n:=by rfl) (uG:(assignEach es X.env).findIdx? (·.1)=none:=by rfl):PG X (.Tuple es k pos) (Xo X.K n t):=by
 intro c_ s Z H v u Q I r hw
 obtain⟨a,xs,e1,hq,hl,hw⟩:=hw
 subst e1
 cases r
 obtain⟨hE,rv,ht,hz⟩:=I.tuple hq
 refine assign_Tuple_tuple (I.ok.hd hc) ht (by simp[hn,<-hl,rv.length]) uG λh' hx=>?_
 have I1:Inv X c_ Z H {s with heap:=h'}:=I.kept (t':=s.toks) λb o e=>hx b o (aa0 (aaJ e)) e
 exact h c_ _ Z H xs _ Q I1 (by simpa using rv) hw
def Xp(to ti:TE)(t:PQ):TG:=λv Z H Q=>to Z H λo H1=>ti Z H1 λi H2=>t o i v H2 λH3=>Q Z H3
theorem wA{o i:Expr}{to ti:TE}{t:PQ}(ho:PE X o to)(hi:PE X i ti)(hs:S_ X t)
  (ha:∀v,assign (.Subscript o i pos) X.env v=(do
   let ov <-holding [v] (eval o X.env)
   let iv <-holding [v,ov] (eval i X.env)
   standAt pos
   holding [v,ov,iv] (setItem ov iv v)
   release [v,ov,iv] []):=by intro _;rfl):PG X (.Subscript o i pos) (Xp to ti t):=by
 intro c_ s Z H v u Q I r h
 rw[ha]
 refine UU (abS (i3 (ho c_ s Z H _ I h) λov s1 iH=>?_))
 obtain⟨x,H1,I1,r1,q1⟩:=iH
 refine UU (abS (i3 (hi c_ s1 Z H1 _ I1 q1) λiv s2 iH=>?_))
 obtain⟨y,H2,I2,r2,q2⟩:=iH
 refine UU (wpAny_standAt (UU (abS (i3 (hs c_ s2 Z H2 x y v ov iv u _ I2 r1 r2 r q2) λ_ s3 iH=>?_))))
 obtain⟨H3,I3,q3⟩:=iH
 exact wpAny_release ⟨Z,H3,I3,q3⟩
def JI(te:TE)(g:TG):TS:=λD Z H=>te Z H λx H1=>g x Z H1 D.nx
theorem wB{tg e:Expr}{te:TE}{g:TG}(he:PE X e te)(hg:PG X tg g)(hs:swapsWithSole [tg] e pos.line X.env=pure false:=by rfl)(hw:swappedStores [tg] e X.env=pure none:=by rfl)
  (h1:(assignEach [tg] X.env).map (·.2)=[assign tg X.env]:=by rfl):PS X (.Assign [tg] e pos) (JI te g):=by
 intro c_ s Z H D I h
 refine wpAny_Assign_stores (i3 (he c_ s Z H _ I h) λv s1 iH=>?_) hs hw
 obtain⟨x,H1,I1,r1,q1⟩:=iH
 rw[h1]
 exact i3 (hg c_ s1 Z H1 x v _ I1 r1 q1) λ_ s2 q=>q
theorem ly{i:Nat}{x:Str}{e:Expr}{te:TE}{pos':Pos}(hN:X.N.Nodup)(hi:X.N[i]?=some x)(hx:Loc X.env.scope x)(he:PE X e te)(hs:swapsWith e (some (.Name x pos')) pos.line X.env=pure false:=by rfl)(hf:X.fn x=true\/X.env.scope.names.lookup x=some .local:=by first|exact .inl rfl|exact .inr rfl|assumption) :
  PS X (.Assign [.Name x pos'] e pos) (JI te (l7 i)):=by
 intro c_ s Z H D I h
 refine wpAny_Assign_Name (i3 (he c_ s Z H _ I h) λv s1 iH=>?_) hs
 obtain⟨y,H1,I1,r1,q1⟩:=iH
 exact D9 I1 hN hi hx r1 (λs2 I2=>⟨_,H1,I2,q1⟩) hf
def PR(c:TT)(tb:TS):TS:=λD Z H=>∃W:Nat->St->Hp->Prop,(∃m,W m Z H)/\∀m Z H,W m Z H->
 c Z H λb H1=>if b=true then ∃N:St->Hp->Prop,(∀Z' H',N Z' H'->∃m',m'<m/\W m' Z' H')/\tb {D with nx:=N,ct:=N,bk:=D.nx} Z H1 else D.nx Z H1
theorem Eb{c:Expr}{body:List Stmt}{tc:TT}{tb:TS}(hp:PassesOwn (model X.prog X.w) X.A X.env X.xe)(hc:PT X c tc)(hb:FL X body tb):PS X (.While c body [] pos) (PR tc tb):=by
 intro c_ s Z H D I h
 obtain⟨W,⟨m0,w0⟩,turn⟩:=h
 refine wpAny_While (codeAny_whileLoop (λn s'=>∃Z' H',Inv X c_ Z' H' s'/\W n Z' H') ?_ m0 ⟨Z,H,I,w0⟩)
 rintro n s1 ⟨Z1,H1,I1,w1⟩
 refine acb hp (i3 (hc c_ s1 Z1 H1 _ I1 (turn n Z1 H1 w1)) λb s2 iH=>?_)
 obtain⟨H2,I2,q2⟩:=iH
 cases b with
 | true=>
  obtain⟨N,hN,q2⟩:=q2
  rw[aax rfl]
  refine acb hp (i3 (hb c_ s2 Z1 H2 _ I2 q2) λf s3 q3=>?_)
  cases f with
  | next=>
   obtain⟨Z3,H3,I3,n3⟩:=q3
   obtain⟨m',hm,w3⟩:=hN Z3 H3 n3
   exact⟨m',hm,Z3,H3,I3,w3⟩
  | cont=>
   obtain⟨Z3,H3,I3,n3⟩:=q3
   obtain⟨m',hm,w3⟩:=hN Z3 H3 n3
   exact⟨m',hm,Z3,H3,I3,w3⟩
  | brk=>exact q3
  | ret v=>exact q3
 | false=>
  rw[aav aaw]
  exact wpAny_execs_nil ⟨Z1,H2,I2,q2⟩
end
structure It where
 go:Nat->Hp->Prop
 JJ:Nat->Hp->V->Hp->Prop
 stop:Nat->Hp->Prop
def uj(X:Cx)(c_:Qqz)(H:Hp)(b:Addr):Prop:=
 H b=none/\b≠X.env.locals/\b∉X.fs/\(b∈X.ex\/X.s₀.heap.objs.size<=b)/\(∀x c,X.env.cells.lookup x=some c->c≠b)/\∀p∈X.pn++c_,p.1≠b
theorem Inv.zr{X:Cx}{c_:Qqz}{Z:St}{H H':Hp}{s:Shared}{b:Addr}(I:Inv X c_ Z H s)(hb:s.heap.objs.size<=b)(hn:H' b=none):uj X c_ H' b:=by
 refine⟨hn,Nat.ne_of_gt (aaR I.lt hb),I.SW hb,.inr (aam I.sz hb),λx c e z=>?_,λp hp z=>?_⟩
 ·obtain⟨v,q⟩:=I.cell x c e
  exact absurd (aaR q.lt (by rw[z];exact hb)) (abu _)
 ·exact absurd (aaR (aaJ (I.pin p hp).1) (by rw[z];exact hb)) (abu _)
structure Turn(P:Program)(w:World)(K:Qqy)(tg:Expr)(J:It)(fp:List Addr)(it:Addr)(tn:Nat->Heap->Prop):Prop where
 mem:it∈fp
 obj:∀i h,tn i h->∀b∈fp,∃o,h.get? b=some o/\∀v,o.data≠.cell v
 keep:∀i h h',tn i h->(∀b∈fp,∀o,h.get? b=some o->h'.get? b=some o)->tn i h'
 item:∀(X:Cx),X.prog=P->X.w=w->X.K=K->X.calm=true->∀(i:Nat)(c_:Qqz)(s:Shared)(Z:St)(H:Hp)(E:Qqq),Inv X c_ Z H s->(∀b∈fp,uj X c_ H b)->tn i s.heap->J.go i H->
  wpAny (model P w) X.A (pyNext (.ref it)) (λr s1=>∃u,r=some u/\
   wpAny (model P w) X.A (letOwnedTupleGo tg (.ref it) u) (λ_ s2=>∃x H',Inv X c_ Z H' s2/\RelV x u/\J.JJ i H x H'/\tn (i+1) s2.heap/\∀b∈fp,H' b=none) E s1) E s
 done:∀(X:Cx),X.prog=P->X.w=w->X.K=K->X.calm=true->∀(i:Nat)(c_:Qqz)(s:Shared)(Z:St)(H:Hp)(E:Qqq),Inv X c_ Z H s->(∀b∈fp,uj X c_ H b)->tn i s.heap->J.stop i H->
  wpAny (model P w) X.A (pyNext (.ref it)) (λr s1=>r=none/\Inv X c_ Z H s1) E s
 self:∀(A:Around)(i:Nat)(s:Shared)(Q:Qqq)(E:Qqq),tn i s.heap->Q (.ref it) s->wpAny (model P w) A (pyIter (.ref it)) Q E s
abbrev TI:=St->Hp->(It->Hp->Prop)->Prop
def Xq(X:Cx)(c_:Qqz)(Z:St)(tg:Expr)(R:It->Hp->Prop)(Wn:Value)(s2:Shared):Prop:=
 ∃(it:Addr)(fp:List Addr)(tn:Nat->Heap->Prop)(J:It)(H':Hp),Wn=.ref it/\Inv X c_ Z H' s2/\Turn X.prog X.w X.K tg J fp it tn/\tn 0 s2.heap/\(∀b∈fp,uj X c_ H' b)/\R J H'
def PI(X:Cx)(tg iter:Expr)(wi:TI):Prop:=
 ∀(c_:Qqz)(s:Shared)(Z:St)(H:Hp)(R:It->Hp->Prop),Inv X c_ Z H s->wi Z H R->
  wpAny (model X.prog X.w) X.A (eval iter X.env) (λv s1=>wpAny (model X.prog X.w) X.A (pyIter v) (Xq X c_ Z tg R) X.xe s1) X.xe s
theorem zt{M:Model}{A:Around}{E:Qqq}{s:Shared}{tg:Expr}{it:Addr}{u:Value}{o:Obj}{n:String}{vs:Array Value}{Q:Unit->Shared->Prop}(ho:s.heap.get? it=some o)(hc:o.cls=.type n)(hd:o.data=.fields vs)
  (hn:["enumerate","zip","dict_itemiterator","dict_reverseitemiterator","odict_iterator","itertools.zip_longest","itertools.pairwise"].contains n=false) (hQ:Q () s):wpAny M A (letOwnedTupleGo tg (.ref it) u) Q E s:=by
 unfold letOwnedTupleGo
 cases tg<;>first
  | exact aay hQ
  | (cases u<;>first
   | exact aay hQ
   | (
    refine UU (wpAny_load ho ?_)
    rw[hc,hd]
    show wpAny M A (if(["enumerate","zip","dict_itemiterator","dict_reverseitemiterator","odict_iterator","itertools.zip_longest","itertools.pairwise"].contains n&&vs[0]? ==some (rawInt _))=true then _ else _) Q E s
    rw[aav (by intro h;rw[hn,Bool.false_and] at h;cases h)]
    exact aay hQ))
def R1(K:Qqy)(a:Addr):It:=
 ⟨λi H=>∃xs x,gC K H a xs/\xs[i]?=some x,λi H x H'=>H'=H/\∀xs,gC K H a xs->xs[i]?=some x,λi H=>∃xs,gC K H a xs/\xs.length<=i⟩
def Ou(lo:Int)(n:Nat):It:=⟨λi _=>i<n,λi H x H'=>H'=H/\x=.int (lo+i),λi _=>n<=i⟩
theorem Ii{P:Program}{w:World}{K:Qqy}{tg:Expr}(a it:Addr):Turn P w K tg (R1 K a) [it] it (λi h=>h.IsListIter it a i) where
 mem:=by simp
 obj:=λi h st b hb=>by
  have e:b=it:=by simpa using hb
  subst e
  obtain⟨o,e,c,d⟩:=st
  exact⟨o,e,λv z=>by rw[d] at z;cases z⟩
 keep:=λi h h' st k=>st.at λo e=>k it (by simp) o e
 item:=by
  intro X hP hw hK hc i c_ s Z H E I hf st hg
  subst hP hw hK
  obtain⟨xs,x,hq,hx⟩:=hg
  obtain⟨hE,rv,p,hz⟩:=I.list hq
  obtain⟨u,hu,ru⟩:=rv.get hx
  obtain⟨f0,f1,f2,f3,f4,f5⟩:=hf it (by simp)
  refine wpAny_pyNext_list_item st p.isList (x:=u) (by simpa using hu) λh' yJ sb=>?_
  have I1:Inv X c_ Z H {s with heap:=h'}:=I.turned (t':=s.toks) (λb o hb e=>(sb.2 b hb).trans e) f0 f1 f3 f4 f5
  obtain⟨o,e,c,d⟩:=id yJ
  exact⟨u,rfl,zt (s:={s with heap:=h'}) e c d (by decide) ⟨x,H,I1,ru,⟨rfl,λys hy=>by rw[I.pA hy hq];exact hx⟩,yJ,λb hb=>(hf b hb).1⟩⟩
 done:=by
  intro X hP hw hK hc i c_ s Z H E I hf st hg
  subst hP hw hK
  obtain⟨xs,hq,hx⟩:=hg
  obtain⟨hE,rv,p,hz⟩:=I.list hq
  obtain⟨f0,f1,f2,f3,f4,f5⟩:=hf it (by simp)
  have hl:=rv.length
  exact wpAny_pyNext_list_end (I.ok.hd hc) st p.isList (by simp;omega) λh' eb=>⟨rfl,I.turned (t':=s.toks) (λb o hb e=>eb b o hb e) f0 f1 f3 f4 f5⟩
 self:=λ_ _ _ _ _ st h=>wpAny_pyIter_listiter st h
theorem FV{P:Program}{w:World}{K:PySem.W.Frag}{tg:Expr}(it:Addr)(lo:Int)(n:Nat):Turn P w K tg (Ou lo n) [it] it (λi h=>IsRangeIter h it (lo+(i:Nat)*1) ((n:Int)-(i:Nat)) 1) where
 mem:=by simp
 obj:=λi h st b hb=>by
  have e:b=it:=by simpa using hb
  subst e
  exact⟨_,st,λv z=>by
   have z':Data.fields _=Data.cell v:=z
   cases z'⟩
 keep:=λi h h' st k=>k it (by simp) _ st
 item:=by
  intro X hP hw hK hc i c_ s Z H E I hf st hg
  subst hP hw hK
  obtain⟨f0,f1,f2,f3,f4,f5⟩:=hf it (by simp)
  have W:=Walks.range (prog:=X.prog) (w:=X.w) (I.ok.hd hc) it lo 1 n
  refine W.item i s _ _ hg st λv h' tk hv yJ kk=>?_
  obtain⟨t,rfl⟩:=hv
  have I1:Inv X c_ Z H {s with heap:=h',toks:=tk}:=I.turned (λb o hb e=>kk b o (by simpa using hb) e) f0 f1 f3 f4 f5
  refine⟨_,rfl,zt (s:={s with heap:=h',toks:=tk}) (n:="range_iterator") yJ rfl rfl (by decide) ⟨.int (lo+i),H,I1,⟨t,?_⟩,⟨rfl,rfl⟩,yJ,λb hb=>(hf b hb).1⟩⟩
  rw[Int.mul_one]
 done:=by
  intro X hP hw hK hc i c_ s Z H E I hf st hg
  subst hP hw hK
  obtain⟨f0,f1,f2,f3,f4,f5⟩:=hf it (by simp)
  exact wpAny_pyNext_range_end (I.ok.hd hc) st (by have:n<=i:=hg;omega) λh' eb=>⟨rfl,I.turned (t':=s.toks) (λb o hb e=>eb b o hb e) f0 f1 f3 f4 f5⟩
 self:=λ_ _ _ _ _ st h=>wpAny_pyIter_rangeiter st h
section
variable{X:Cx}{tg:Expr}
def Tc(K:Qqy)(tl:TE):TI:=λZ H R=>tl Z H λx H1=>∃a,x=.ref a/\(∃xs,gC K H1 a xs)/\R (R1 K a) H1
theorem ie{l:Expr}{tl:TE}(hl:PE X l tl):PI X tg l (Tc X.K tl):=by
 intro c_ s Z H R I h
 refine i3 (hl c_ s Z H _ I h) λv s1 iH=>?_
 obtain⟨x,H1,I1,r1,q1⟩:=iH
 obtain⟨a,e,⟨xs,hq⟩,q⟩:=q1
 subst e
 cases r1
 obtain⟨hE,rv,p,hz⟩:=I1.list hq
 refine wpAny_pyIter_list p.isList ?_
 refine⟨s1.heap.objs.size,[s1.heap.objs.size],_,_,H1,rfl,I1.kept (t':=s1.toks) λb o e=>aaB _ e,Ii a _,⟨_,aaN _ rfl,rfl,rfl⟩,λb hb=>?_,q⟩
 have e:b=s1.heap.objs.size:=by simpa using hb
 subst e
 exact I1.zr (XU _) (I1.iK.fresh (XU _))
theorem Ec{c_:Qqz}{Z:St}{H:Hp}{s:Shared}{R:It->Hp->Prop}{E:Qqq}{lo hi:Int}{t u v:Tok}{tk:Nat}(I:Inv X c_ Z H s)(h1:-(2 ^ 62)<=lo)(h2:lo<2 ^ 62)(h3:-(2 ^ 62)<=hi)(h4:hi<2 ^ 62)
  (q:R (Ou lo (hi-lo).toNat) H):wpAny (model X.prog X.w) X.A (pyIter (.ref s.heap.objs.size)) (Xq X c_ Z tg R) E {s with heap:=s.heap.push {cls:=.type "range",data:=.fields #[.int lo t,.int hi u,.int 1 v]},toks:=tk}:=by
 refine wpAny_pyIter_range (IsRange.new ..) (small_one h1 h2 h3 h4) ?_
 have I1:Inv X c_ Z H {s with heap:=s.heap.push {cls:=.type "range",data:=.fields #[.int lo t,.int hi u,.int 1 v]},toks:=tk}:=I.kept λb o e=>aaB _ e
 refine⟨(s.heap.push {cls:=.type "range",data:=.fields #[.int lo t,.int hi u,.int 1 v]}).objs.size,[(s.heap.push {cls:=.type "range",data:=.fields #[.int lo t,.int hi u,.int 1 v]}).objs.size],_,_,H,rfl,
  I1.kept (t':=tk) λb o e=>aaB _ e,FV _ lo (hi-lo).toNat,?_,λb hb=>?_,q⟩
 ·have e1:lo+((0:Nat):Int)*1=lo:=by simp
  have e2:(((hi-lo).toNat:Nat):Int)-((0:Nat):Int)=Builtin.Range.rangeSize lo hi 1:=by rw[rangeSize_one];split<;>omega
  show IsRangeIter _ _ (lo+((0:Nat):Int)*1) ((((hi-lo).toNat:Nat):Int)-((0:Nat):Int)) 1
  rw[e1,e2]
  exact aaN _ rfl
 ·have e:b=(s.heap.push {cls:=.type "range",data:=.fields #[.int lo t,.int hi u,.int 1 v]}).objs.size:=by simpa using hb
  subst e
  exact I1.zr (XU _) (I1.iK.fresh (XU _))
def Td(ta:TA):TI:=λZ H R=>ta Z H λvs H1=>∃j:Int,vs=[.int j]/\-(2 ^ 62)<=j/\j<2 ^ 62/\R (Ou 0 j.toNat) H1
def Te(ta:TA):TI:=λZ H R=>ta Z H λvs H1=>∃i j:Int,vs=[.int i,.int j]/\(-(2 ^ 62)<=i/\i<2 ^ 62/\-(2 ^ 62)<=j/\j<2 ^ 62)/\R (Ou i (j-i).toNat) H1
theorem jT{a:Expr}{ta:TA}{p pos:Pos}(hg:Gl X "range")(hm:X.mg "range"=none)(ha:PA X [a] ta)(hs:starEach [a] X.env=[(false,eval a X.env)]:=by rfl):PI X tg (.Call (.Name "range" p) [a] [] pos) (Td ta):=by
 intro c_ s Z H R I h
 refine Call_ (oZ I hg hm boot_range (abg (i3 (ha pos c_ s Z H _ I h) λus s1 iH=>?_) hs rfl))
 obtain⟨vs,H1,I1,r1,q1⟩:=iH
 obtain⟨j,e,q1,q2,q⟩:=q1
 subst e
 cases r1 with
 | cons r rr=>
  cases rr
  obtain⟨t,rfl⟩:=r
  exact call_range_1 (Ec I1 (by omega) (by omega) q1 q2 (by simpa using q))
theorem BD{a b:Expr}{ta:TA}{p pos:Pos}(hg:Gl X "range")(hm:X.mg "range"=none)(ha:PA X [a,b] ta)(hs:starEach [a,b] X.env=[(false,eval a X.env),(false,eval b X.env)]:=by rfl)(Fv:starEach [b] X.env=[(false,eval b X.env)]:=by rfl) :
  PI X tg (.Call (.Name "range" p) [a,b] [] pos) (Te ta):=by
 intro c_ s Z H R I h
 refine Call_ (oZ I hg hm boot_range (abg (i3 (ha pos c_ s Z H _ I h) λus s1 iH=>?_) (by rw[hs,Fv]) (by rw[Fv];rfl)))
 obtain⟨vs,H1,I1,r1,q1⟩:=iH
 obtain⟨i,j,e,⟨q1,q2,q3,q4⟩,q⟩:=q1
 subst e
 cases r1 with
 | cons r rr=>
  cases rr with
  | cons r' rr=>
   cases rr
   obtain⟨t,rfl⟩:=r
   obtain⟨t',rfl⟩:=r'
   exact call_range_2 (Ec I1 q1 q2 q3 q4 q)
def PU(wi:TI)(g:TG)(tb:TS):TS:=λD Z H=>wi Z H λJ H1=>∃W:Nat->Nat->St->Hp->Prop,(∃m,W 0 m Z H1)/\∀i m Z H,W i m Z H->
 (J.stop i H/\D.nx Z H)\/(J.go i H/\∃N:St->Hp->Prop,(∀Z' H',N Z' H'->∃m',m'<m/\W (i+1) m' Z' H')/\∀x H',J.JJ i H x H'->g x Z H' λZ2 H2=>tb {D with nx:=N,ct:=N,bk:=D.nx} Z2 H2)
noncomputable def zu(fp:List Addr)(h:Heap):Qqz:=fp.filterMap λb=>(h.get? b).map λo=>(b,o)
theorem qi{fp:List Addr}{h:Heap}{b:Addr}{o:Obj}(hb:b∈fp)(e:h.get? b=some o):(b,o)∈zu fp h:=abw.mpr ⟨b,hb,by rw[e];rfl⟩
theorem Ij{fp:List Addr}{h:Heap}{p:Addr×Obj}(hp:p∈zu fp h):p.1∈fp/\h.get? p.1=some p.2:=by
 obtain⟨b,hb,e⟩:=abw.mp hp
 cases q:h.get? b with
 | none=>rw[q] at e;cases e
 | some o=>
  rw[q] at e
  have e':(b,o)=p:=aaE e
  subst e'
  exact⟨hb,q⟩
theorem Inv.pinned{c_:Qqz}{Z:St}{H:Hp}{s:Shared}{fp:List Addr}(I:Inv X c_ Z H s)(hf:∀b∈fp,uj X c_ H b)(ho:∀b∈fp,∃o,s.heap.get? b=some o/\∀v,o.data≠.cell v):Inv X (c_++zu fp s.heap) Z H s:=
 I.y9 λp hp=>(aak.mp hp).elim (λz=>I.pin p (aaW _ z)) λz=>by
  obtain⟨hb,e⟩:=Ij z
  obtain⟨f0,f1,f2,_⟩:=hf p.1 hb
  obtain⟨o,e',d⟩:=ho p.1 hb
  rw[e] at e';cases e'
  exact⟨e,f0,f1,f2,d⟩
theorem Inv.uU{c_ pl:Qqz}{Z:St}{H:Hp}{s:Shared}(I:Inv X (c_++pl) Z H s):Inv X c_ Z H s:=I.y9 λp hp=>I.pin p (aaW _ (aaI _ hp))
theorem iD{iter:Expr}{body:List Stmt}{wi:TI}{g:TG}{tb:TS}{pos:Pos}(hp:PassesOwn (model X.prog X.w) X.A X.env X.xe)(hc:X.calm=true)(hi:PI X tg iter wi)(hg:PG X tg g)(hb:FL X body tb)
  (hs:∀x,foldedSetIterable iter X.env x=pure x:=by intro _;rfl):PS X (.For tg iter body [] pos) (PU wi g tb):=by
 intro c_ s Z H D I h
 refine wpAny_For (i3 (hi c_ s Z H _ I h) λv s1 h1=>i3 h1 λWn s2 h2=>?_) hs
 obtain⟨it,fp,tn,J,H2,e,I2,T,Bv,f2,W,⟨m0,w0⟩,turn⟩:=h2
 subst e
 have Ra:∀{H':Hp},(∀b∈fp,H' b=none)->∀b∈fp,uj X c_ H' b:=λhn b hb=>⟨hn b hb,(f2 b hb).2⟩
 refine codeAny_forLoop_any (λn s'=>∃i Z' H',Inv X c_ Z' H' s'/\tn i s'.heap/\(∀b∈fp,H' b=none)/\W i n Z' H') ?_ m0 ⟨0,Z,H2,I2,Bv,λb hb=>(f2 b hb).1,w0⟩
 rintro n s3 ⟨i,Z3,H3,I3,rC,Ut,w3⟩
 rcases turn i n Z3 H3 w3 with⟨stop,qn⟩|⟨go,N,hN,step⟩
 ·refine acb hp (i3 (T.done X rfl rfl rfl hc i c_ s3 Z3 H3 X.xe I3 (Ra Ut) rC stop) λr s4 iH=>?_)
  obtain⟨hr,I4⟩:=iH
  subst hr
  exact wpAny_execs_nil ⟨Z3,H3,I4,qn⟩
 ·refine acb hp (i3 (T.item X rfl rfl rfl hc i c_ s3 Z3 H3 X.xe I3 (Ra Ut) rC go) λr s4 iH=>?_)
  obtain⟨u,hr,h4⟩:=iH
  subst hr
  refine acb hp (i3 h4 λ_ s5 iH=>?_)
  obtain⟨x,H5,I5,r5,y5,Rb,Yn⟩:=iH
  have Yo:=I5.pinned (Ra Yn) (T.obj _ _ Rb)
  refine acb hp (i3 (hg _ s5 Z3 H5 x u _ Yo r5 (step x H5 y5)) λ_ s6 iH=>?_)
  obtain⟨Z6,H6,I6,q6⟩:=iH
  refine acb hp (i3 (hb _ s6 Z6 H6 _ I6 q6) λf s7 q7=>?_)
  have again:∀{Z7:St} {H7:Hp},Inv X (c_++zu fp s5.heap) Z7 H7 s7->N Z7 H7->∃m,m<n/\∃i Z' H',Inv X c_ Z' H' s7/\tn i s7.heap/\(∀b∈fp,H' b=none)/\W i m Z' H':=λ{Z7 H7} I7 n7=>by
   obtain⟨m',hm,w7⟩:=hN Z7 H7 n7
   refine⟨m',hm,i+1,Z7,H7,I7.uU,T.keep _ _ _ Rb λb hb o e=>(I7.pin (b,o) (aaW _ (aaW _ (qi hb e)))).1,λb hb=>?_,w7⟩
   obtain⟨o,e,d⟩:=T.obj _ _ Rb b hb
   exact(I7.pin (b,o) (aaW _ (aaW _ (qi hb e)))).2.1
  cases f with
  | next=>obtain⟨Z7,H7,I7,n7⟩:=q7;exact again I7 n7
  | cont=>obtain⟨Z7,H7,I7,n7⟩:=q7;exact again I7 n7
  | brk=>obtain⟨Z7,H7,I7,q7⟩:=q7;exact⟨Z7,H7,I7.uU,q7⟩
  | ret v=>obtain⟨x7,Z7,H7,I7,r7,q7⟩:=q7;exact⟨x7,Z7,H7,I7.uU,r7,q7⟩
end
theorem iV{K:PySem.W.Frag}{a:Addr}{xs:List V}{g:TG}{tb:TS}{D:Ends}{Z:St}{H:Hp}(Pv:Nat->St->Hp->Prop)(h0:Pv 0 Z H)(hl:∀i Z H,i<=xs.length->Pv i Z H->gC K H a xs)
  (hs:∀i x Z H,xs[i]?=some x->Pv i Z H->g x Z H λZ2 H2=>tb {D with nx:=Pv (i+1),ct:=Pv (i+1),bk:=D.nx} Z2 H2) (hd:∀Z H,Pv xs.length Z H->D.nx Z H) :
  ∃W:Nat->Nat->St->Hp->Prop,(∃m,W 0 m Z H)/\∀i m Z H,W i m Z H->
   ((R1 K a).stop i H/\D.nx Z H)\/((R1 K a).go i H/\∃N:St->Hp->Prop,(∀Z' H',N Z' H'->∃m',m'<m/\W (i+1) m' Z' H')/\∀x H',(R1 K a).JJ i H x H'->g x Z H' λZ2 H2=>tb {D with nx:=N,ct:=N,bk:=D.nx} Z2 H2):=by
 refine⟨λi m Z H=>m=xs.length-i/\i<=xs.length/\Pv i Z H,⟨xs.length,by simp,aaY _,h0⟩,?_⟩
 rintro i m Z H ⟨rfl,hi,p⟩
 have q:=hl i Z H hi p
 by_cases j3:i<xs.length
 ·refine .inr ⟨⟨xs,xs[i],q,by simp[j3]⟩,Pv (i+1),λZ' H' p'=>⟨xs.length-(i+1),by omega,rfl,j3,p'⟩,λx H' y=>?_⟩
  obtain⟨e,y⟩:=y
  subst e
  exact hs i x Z _ (y xs q) p
 ·have e:i=xs.length:=by omega
  subst e
  exact .inl ⟨⟨xs,q,XU _⟩,hd Z H p⟩
theorem lB{lo:Int}{n:Nat}{g:TG}{tb:TS}{D:Ends}{Z:St}{H:Hp}(Pv:Nat->St->Hp->Prop)(h0:Pv 0 Z H)
  (hs:∀i Z H,i<n->Pv i Z H->g (.int (lo+i)) Z H λZ2 H2=>tb {D with nx:=Pv (i+1),ct:=Pv (i+1),bk:=D.nx} Z2 H2) (hd:∀Z H,Pv n Z H->D.nx Z H) :
  ∃W:Nat->Nat->St->Hp->Prop,(∃m,W 0 m Z H)/\∀i m Z H,W i m Z H->
   ((Ou lo n).stop i H/\D.nx Z H)\/((Ou lo n).go i H/\∃N:St->Hp->Prop,(∀Z' H',N Z' H'->∃m',m'<m/\W (i+1) m' Z' H')/\∀x H',(Ou lo n).JJ i H x H'->g x Z H' λZ2 H2=>tb {D with nx:=N,ct:=N,bk:=D.nx} Z2 H2):=by
 refine⟨λi m Z H=>m=n-i/\i<=n/\Pv i Z H,⟨n,by simp,aaY _,h0⟩,?_⟩
 rintro i m Z H ⟨rfl,hi,p⟩
 by_cases j3:i<n
 ·refine .inr ⟨j3,Pv (i+1),λZ' H' p'=>⟨n-(i+1),by omega,rfl,j3,p'⟩,λx H' y=>?_⟩
  obtain⟨e,y⟩:=y
  subst e y
  exact hs i Z _ j3 p
 ·have e:i=n:=by omega
  subst e
  exact .inl ⟨XU _,hd Z H p⟩
abbrev R2:=V->V->Hp->VK->Prop
def xN(X:Cx)(f:Value->Value->Sem Value)(r:R2):Prop:=
 ∀(c_:Qqz)(s:Shared)(Z:St)(H:Hp)(x y:V)(v u:Value)(Q:VK),Inv X c_ Z H s->RelV x v->RelV y u->r x y H Q->
  wpAny (model X.prog X.w) X.A (f v u) (EP X c_ Z Q) X.xe s
def Xr(X:Cx)(f:Value->Sem Value)(r:V->Hp->VK->Prop):Prop:=
 ∀(c_:Qqz)(s:Shared)(Z:St)(H:Hp)(x:V)(v:Value)(Q:VK),Inv X c_ Z H s->RelV x v->r x H Q->
  wpAny (model X.prog X.w) X.A (f v) (EP X c_ Z Q) X.xe s
def uV(X:Cx)(f:Value)(r:List V->Hp->VK->Prop):Prop:=
 ∀(c_:Qqz)(s:Shared)(Z:St)(H:Hp)(xs:List V)(us:List Value)(Q:VK),Inv X c_ Z H s->Vals xs us->r xs H Q->
  wpAny (model X.prog X.w) X.A (call f us) (EP X c_ Z Q) X.xe s
def Xs(X:Cx)(r:V->Hp->(Bool->Hp->Prop)->Prop):Prop:=
 ∀(c_:Qqz)(s:Shared)(Z:St)(H:Hp)(x:V)(v:Value)(Q:Bool->Hp->Prop),Inv X c_ Z H s->RelV x v->r x H Q->
  wpAny (model X.prog X.w) X.A (truthy v) (TP X c_ Z Q) X.xe s
def Wb(r:R2)(ta tb:TE):TE:=λZ H Q=>ta Z H λx H1=>tb Z H1 λy H2=>r x y H2 Q
def tUn(r:V->Hp->VK->Prop)(ta:TE):TE:=λZ H Q=>ta Z H λx H1=>r x H1 Q
def rI(C:Int->Int->Prop)(g:Int->Int->V):R2:=λx y H Q=>∃i j,x=.int i/\y=.int j/\C i j/\Q (g i j) H
def Ov(g:Int->Int->V):R2:=λx y H Q=>∃i j,x=.int i/\y=.int j/\Q (g i j) H
def rU(g:Int->V):V->Hp->VK->Prop:=λx H Q=>∃i,x=.int i/\Q (g i) H
section
variable{X:Cx}{a b c:Expr}{ta tb tc:TE}{pos:Pos}
theorem Tf(ha:PE X a ta)(hb:PE X b tb){c_:Qqz}{s:Shared}{Z:St}{H:Hp}{R:V->V->Hp->Prop}(I:Inv X c_ Z H s)
  (h:ta Z H λx H1=>tb Z H1 λy H2=>R x y H2) {Q:Qqq} {f:Value->Value->Sem Value}
  (hf:∀v u s2 x y H2,Inv X c_ Z H2 s2->RelV x v->RelV y u->R x y H2->wpAny (model X.prog X.w) X.A (f v u) Q X.xe s2) :
  wpAny (model X.prog X.w) X.A (eval a X.env) (λv s₁=>wpAny (model X.prog X.w) X.A (eval b X.env) (λu s₂=>wpAny (model X.prog X.w) X.A (f v u) Q X.xe s₂) X.xe s₁) X.xe s:=by
 refine i3 (ha c_ s Z H _ I h) λv s1 iH=>?_
 obtain⟨x,H1,I1,r1,q1⟩:=iH
 refine i3 (hb c_ s1 Z H1 _ I1 q1) λu s2 iH=>?_
 obtain⟨y,H2,I2,r2,q2⟩:=iH
 exact hf v u s2 x y H2 I2 r1 r2 q2
theorem gp{op:Operator}{r:R2}(ho:xN X (binaryOp op) r)(ha:PE X a ta)(hb:PE X b tb):PE X (.BinOp a op b pos) (Wb r ta tb):=by
 intro c_ s Z H Q I h
 exact wpAny_BinOp (Tf ha hb I h λv u s2 x y H2 I2 rx ry q=>ho c_ s2 Z H2 x y v u Q I2 rx ry q)
theorem xO{op:UnaryOp}{r:V->Hp->VK->Prop}(ho:Xr X (unaryOp op) r)(ha:PE X a ta):PE X (.UnaryOp op a pos) (tUn r ta):=by
 intro c_ s Z H Q I h
 exact UnaryOp_ (i3 (ha c_ s Z H _ I h) λv s1 ⟨x,H1,I1,r1,q1⟩=>ho c_ s1 Z H1 x v Q I1 r1 q1)
theorem Xt{f:Value->Value->Sem Value}{C:Int->Int->Prop}{g:Int->Int->Int}
  (rule:∀(i j:Int)(t u:Tok)(s:Shared)(Q:Qqq)(E:Qqq),C i j->Q (.int (g i j) s.toks) {s with toks:=s.toks+1}->wpAny (model X.prog X.w) X.A (f (.int i t) (.int j u)) Q E s) :
  xN X f (rI C λi j=>.int (g i j)):=by
 intro c_ s Z H x y v u Q I rx ry h
 obtain⟨i,j,rfl,rfl,hc,q⟩:=h
 obtain⟨t,rfl⟩:=rx
 obtain⟨t',rfl⟩:=ry
 exact rule i j t t' s _ _ hc ⟨.int (g i j),H,I.tok _,⟨_,rfl⟩,q⟩
theorem Tg{f:Value->Value->Sem Value}{g:Int->Int->Int}
  (rule:∀(i j:Int)(t u:Tok)(s:Shared)(Q:Qqq)(E:Qqq),Q (.int (g i j) s.toks) {s with toks:=s.toks+1}->wpAny (model X.prog X.w) X.A (f (.int i t) (.int j u)) Q E s) :
  xN X f (Ov λi j=>.int (g i j)):=by
 intro c_ s Z H x y v u Q I rx ry h
 obtain⟨i,j,rfl,rfl,q⟩:=h
 obtain⟨t,rfl⟩:=rx
 obtain⟨t',rfl⟩:=ry
 exact rule i j t t' s _ _ ⟨.int (g i j),H,I.tok _,⟨_,rfl⟩,q⟩
theorem MD{f:Value->Value->Sem Value}{g:Int->Int->Bool}
  (rule:∀(i j:Int)(t u:Tok)(s:Shared)(Q:Qqq)(E:Qqq),Q (.bool (g i j)) s->wpAny (model X.prog X.w) X.A (f (.int i t) (.int j u)) Q E s) :
  xN X f (Ov λi j=>.bl (g i j)):=by
 intro c_ s Z H x y v u Q I rx ry h
 obtain⟨i,j,rfl,rfl,q⟩:=h
 obtain⟨t,rfl⟩:=rx
 obtain⟨t',rfl⟩:=ry
 exact rule i j t t' s _ _ ⟨.bl (g i j),H,I,rfl,q⟩
def Xu(i j:Int):Prop:=0<j/\j<1073741824
def PV(i j:Int):Prop:=(-(2 ^ 64)<i/\i<2 ^ 64)\/(-(2 ^ 64)<j/\j<2 ^ 64)
theorem PV.ok{i j:Int}(h:PV i j):IntMulOk i j:=by
 rcases h with⟨h1,h2⟩|⟨h1,h2⟩
 ·exact .of_left (intBits_le_64 h1 h2)
 ·exact .of_right (intBits_le_64 h1 h2)
theorem iy:xN X (binaryOp .Add) (Ov λi j=>.int (i+j)):=Tg λ_ _ _ _ _ _ _ q=>add_int q
theorem Ct:xN X (binaryOp .Sub) (Ov λi j=>.int (i-j)):=Tg λ_ _ _ _ _ _ _ q=>sub_int q
theorem rE:xN X (binaryOp .Mult) (rI PV λi j=>.int (i*j)):=Xt λ_ _ _ _ _ _ _ hc q=>mul_int q hc.ok
theorem jk:xN X (binaryOp .FloorDiv) (rI Xu λi j=>.int (i/j)):=Xt λi j _ _ _ _ _ hc q=>by
 have h1:(0:Int)<j:=hc.1
 have h2:j<1073741824:=hc.2
 exact floordiv_int (by omega) (by rw[Int.fdiv_eq_ediv_of_nonneg i (by omega)];exact q) (.inl (PyProof.noPylong_small (by omega)))
theorem iz:xN X (binaryOp .Mod) (rI (λ_ j=>0<j) λi j=>.int (i%j)):=Xt λi j _ _ _ _ _ hc q=>by
 have h1:(0:Int)<j:=hc
 exact mod_int' (by omega) (by rw[Int.fmod_eq_emod_of_nonneg i (by omega)];exact q)
theorem unI{f:Value->Sem Value}{g:Int->Int}
  (rule:∀(i:Int)(t:Tok)(s:Shared)(Q:Qqq)(E:Qqq),Q (.int (g i) s.toks) {s with toks:=s.toks+1}->wpAny (model X.prog X.w) X.A (f (.int i t)) Q E s) :
  Xr X f (rU λi=>.int (g i)):=by
 intro c_ s Z H x v Q I rx h
 obtain⟨i,rfl,q⟩:=h
 obtain⟨t,rfl⟩:=rx
 exact rule i t s _ _ ⟨.int (g i),H,I.tok _,⟨_,rfl⟩,q⟩
theorem rF:Xr X (unaryOp .USub) (rU λi=>.int (-i)):=unI λ_ _ _ _ _ q=>neg_int q
end
noncomputable def PX:V->V->Bool
 | .jc,.jc=>true|.jc,.int _=>true|.int _,.jc=>true|.jc,.bl _=>true|.bl _,.jc=>true|.jc,.str _=>true|.str _,.jc=>true
 | .int _,.int _=>true|.bl _,.bl _=>true|.str _,.str _=>true|.D7 _,.D7 _=>true
 | .int _,.str _=>true|.str _,.int _=>true|.bl _,.str _=>true|.str _,.bl _=>true
 | _,_=>false
noncomputable def rEq:R2:=λx y H Q=>PX x y=true/\Q (.bl (decide (x=y))) H
noncomputable def rNe:R2:=λx y H Q=>PX x y=true/\Q (.bl (!decide (x=y))) H
theorem Hh{i j:Int}:decide (V.int i=V.int j)=(i ==j):=by
 rw[abn]
 simp
theorem JK{i j:Bool}:decide (V.bl i=V.bl j)=(i ==j):=by
 rw[abn]
 simp
theorem Hi{i j:Str}:decide (V.str i=V.str j)=(i ==j):=by
 rw[abn]
 simp
theorem Hj{i j:Array UInt8}:decide (V.D7 i=V.D7 j)=(i.toList ==j.toList):=by
 rw[abn]
 cases i
 cases j
 simp
section
variable{X:Cx}{a b c:Expr}{ta tb tc:TE}{pos:Pos}
theorem iO{c_:Qqz}{Z:St}{H:Hp}{s:Shared}{Q:VK}{k k':Bool}(I:Inv X c_ Z H s)(q:Q (.bl k) H)(e:k=k'):EP X c_ Z Q (.bool k') s:=by
 subst e
 exact⟨.bl k,H,I,rfl,q⟩
theorem mB:xN X (compareOp .Eq) rEq:=by
 intro c_ s Z H x y v u Q I rx ry h
 obtain⟨hs,q⟩:=h
 cases x with
 | jc=>
  cases rx
  cases y with
  | jc=>cases ry;exact PySem.EqNone.eq_none_none (iO I q (by simp))
  | bl j=>cases ry;exact PySem.EqNone.eq_none_bool (iO I q (by simp))
  | int j=>obtain⟨t',rfl⟩:=ry;exact PySem.EqNone.eq_none_int (iO I q (by simp))
  | str j=>obtain⟨t',rfl⟩:=ry;exact PySem.EqNone.eq_none_str (iO I q (by simp))
  | _=>exact absurd (show false=true from hs) aaw
 | bl i=>
  cases rx
  cases y with
  | jc=>cases ry;exact PySem.EqNone.eq_bool_none (iO I q (by simp))
  | bl j=>cases ry;exact eq_bool (iO I q JK)
  | str j=>obtain⟨t',rfl⟩:=ry;exact PySem.EqMixed.eq_bool_str (iO I q (by simp))
  | _=>exact absurd (show false=true from hs) aaw
 | int i=>
  obtain⟨t,rfl⟩:=rx
  cases y with
  | jc=>cases ry;exact PySem.EqNone.eq_int_none (iO I q (by simp))
  | int j=>obtain⟨t',rfl⟩:=ry;exact eq_int (iO I q Hh)
  | str j=>obtain⟨t',rfl⟩:=ry;exact PySem.EqMixed.eq_int_str (iO I q (by simp))
  | _=>exact absurd (show false=true from hs) aaw
 | str i=>
  obtain⟨t,rfl⟩:=rx
  cases y with
  | jc=>cases ry;exact PySem.EqNone.eq_str_none (iO I q (by simp))
  | bl j=>cases ry;exact PySem.EqMixed.eq_str_bool (iO I q (by simp))
  | int j=>obtain⟨t',rfl⟩:=ry;exact PySem.EqMixed.eq_str_int (iO I q (by simp))
  | str j=>obtain⟨t',rfl⟩:=ry;exact eq_str (iO I q Hi)
  | _=>exact absurd (show false=true from hs) aaw
 | D7 i=>
  obtain⟨t,rfl⟩:=rx
  cases y with
  | D7 j=>obtain⟨t',rfl⟩:=ry;exact W.eq_bytes (iO I q Hj)
  | _=>exact absurd (show false=true from hs) aaw
 | _=>cases y<;>exact absurd (show false=true from hs) aaw
theorem Hk:xN X (compareOp .NotEq) rNe:=by
 intro c_ s Z H x y v u Q I rx ry h
 obtain⟨hs,q⟩:=h
 cases x with
 | jc=>
  cases rx
  cases y with
  | jc=>cases ry;exact PySem.EqNone.ne_none_none (iO I q (by simp))
  | bl j=>cases ry;exact PySem.EqNone.ne_none_bool (iO I q (by simp))
  | int j=>obtain⟨t',rfl⟩:=ry;exact PySem.EqNone.ne_none_int (iO I q (by simp))
  | str j=>obtain⟨t',rfl⟩:=ry;exact PySem.EqNone.ne_none_str (iO I q (by simp))
  | _=>exact absurd (show false=true from hs) aaw
 | bl i=>
  cases rx
  cases y with
  | jc=>cases ry;exact PySem.EqNone.ne_bool_none (iO I q (by simp))
  | bl j=>cases ry;exact ne_bool (iO I q (abd not JK))
  | str j=>obtain⟨t',rfl⟩:=ry;exact PySem.EqMixed.ne_bool_str (iO I q (by simp))
  | _=>exact absurd (show false=true from hs) aaw
 | int i=>
  obtain⟨t,rfl⟩:=rx
  cases y with
  | jc=>cases ry;exact PySem.EqNone.ne_int_none (iO I q (by simp))
  | int j=>obtain⟨t',rfl⟩:=ry;exact ne_int (iO I q (abd not Hh))
  | str j=>obtain⟨t',rfl⟩:=ry;exact PySem.EqMixed.ne_int_str (iO I q (by simp))
  | _=>exact absurd (show false=true from hs) aaw
 | str i=>
  obtain⟨t,rfl⟩:=rx
  cases y with
  | jc=>cases ry;exact PySem.EqNone.ne_str_none (iO I q (by simp))
  | bl j=>cases ry;exact PySem.EqMixed.ne_str_bool (iO I q (by simp))
  | int j=>obtain⟨t',rfl⟩:=ry;exact PySem.EqMixed.ne_str_int (iO I q (by simp))
  | str j=>obtain⟨t',rfl⟩:=ry;exact ne_str (iO I q (abd not Hi))
  | _=>exact absurd (show false=true from hs) aaw
 | D7 i=>
  obtain⟨t,rfl⟩:=rx
  cases y with
  | D7 j=>obtain⟨t',rfl⟩:=ry;exact W.ne_bytes (iO I q (abd not Hj))
  | _=>exact absurd (show false=true from hs) aaw
 | _=>cases y<;>exact absurd (show false=true from hs) aaw
theorem Ed:xN X (compareOp .Lt) (Ov λi j=>.bl (decide (i<j))):=MD λ_ _ _ _ _ _ _ q=>lt_int q
theorem JL:xN X (compareOp .LtE) (Ov λi j=>.bl (decide (i<=j))):=MD λ_ _ _ _ _ _ _ q=>le_int q
theorem Ee:xN X (compareOp .Gt) (Ov λi j=>.bl (decide (j<i))):=MD λ_ _ _ _ _ _ _ q=>gt_int q
theorem Th:xN X (compareOp .GtE) (Ov λi j=>.bl (decide (j<=i))):=MD λ_ _ _ _ _ _ _ q=>ge_int q
theorem Cu:xN X (compareOp .NotIn) (λx y H Q=>∃i j,x=.str i/\y=.str j/\Q (.bl (!(!(Builtin.Str.occurrences j i 0 j.length 1).isEmpty))) H):=by
 intro c_ s Z H x y v u Q I rx ry h
 obtain⟨i,j,rfl,rfl,q⟩:=h
 obtain⟨t,rfl⟩:=rx
 obtain⟨t',rfl⟩:=ry
 exact notIn_str (iO I q rfl)
theorem iA(b:Expr){op:CmpOp}(h:op≠.In:=by decide)(h2:op≠.NotIn:=by decide):behindInMarks op b=false:=by
 have e1:(op ==CmpOp.In)=false:=by cases op<;>first|rfl|exact absurd rfl h
 have e2:(op ==CmpOp.NotIn)=false:=by cases op<;>first|rfl|exact absurd rfl h2
 cases b<;>simp[behindInMarks,e1,e2]
def Ow(t:TE):TT:=λZ H Q=>t Z H λx H'=>∃k,x=.bl k/\Q k H'
theorem hX{op:CmpOp}{r:R2}(ho:xN X (compareOp op) r)(ha:PE X a ta)(hb:PE X b tb)(hm:behindInMarks op b=false):PT X (.Compare a [op] [b] pos) (Ow (Wb r ta tb)):=by
 intro c_ s Z H Q I h
 refine wpAny_isTrue_Compare1 (i3 (ha c_ s Z H _ I h) λv s1 ⟨x,H1,I1,r1,q1⟩=>i3 (hb c_ s1 Z H1 _ I1 q1) λu s2 ⟨y,H2,I2,r2,q2⟩=>
  i3 (ho c_ s2 Z H2 x y v u _ I2 r1 r2 q2) λc s3 ⟨z,H3,I3,r3,k,e,q3⟩=>?_) hm
 subst e
 cases r3
 exact abM ⟨H3,I3,q3⟩
def PY(r r':R2)(ta tb tc:TE):TE:=λZ H Q=>ta Z H λx H1=>tb Z H1 λy H2=>r x y H2 λz H3=>∃k,z=.bl k/\
 (if k=true then tc Z H3 λw' H4=>r' y w' H4 Q else Q (.bl false) H3)
theorem Ef{op Yp:CmpOp}{r r':R2}(ho:xN X (compareOp op) r)(qf:xN X (compareOp Yp) r')(ha:PE X a ta)(hb:PE X b tb)(hc:PE X c tc)
  (hm:lastMarks [op,Yp] [b,c]=false:=by with_unfolding_all rfl):PT X (.Compare a [op,Yp] [b,c] pos) (Ow (PY r r' ta tb tc)):=by
 intro c_ s Z H Q I h
 refine isTrue_chain (i3 (ha c_ s Z H _ I h) λv s1 ⟨x,H1,I1,r1,q1⟩=>test_link (i3 (hb c_ s1 Z H1 _ I1 q1) λu s2 ⟨y,H2,I2,r2,q2⟩=>
  i3 (ho c_ s2 Z H2 x y v u _ I2 r1 r2 q2) λd s3 ⟨z,H3,I3,r3,k,e,q3⟩=>?_)) hm
 subst e
 cases r3
 refine abM ?_
 cases k with
 | false=>
  obtain⟨k',e',q'⟩:=q3
  cases e'
  exact ite_ff ⟨H3,I3,q'⟩
 | true=>
  refine ite_tt (test_last (i3 (hc c_ s3 Z H3 _ I3 q3) λw' s4 iH=>?_))
  obtain⟨z',H4,I4,r4,q4⟩:=iH
  refine i3 (qf c_ s4 Z H4 y z' u w' _ I4 r2 r4 q4) λd' s5 Jo=>?_
  obtain⟨z2,H5,I5,r5,k2,e2,q5⟩:=Jo
  subst e2
  cases r5
  exact abM ⟨H5,I5,q5⟩
def Ti(K:Qqy)(x:V)(H:Hp)(k:Bool):Prop:=
 match x with
 | .jc=>k=false
 | .bl b=>k=b
 | .int i=>k=(i != 0)
 | .str y=>y.length<=sizeLine/\k=((y.length:Int) != 0)
 | .D7 y=>y.size<=sizeLine/\k=((y.size:Int) != 0)
 | .ref p=>(∃xs,gC K H p xs/\k=!xs.isEmpty)\/(∃xs,ox K H p xs/\k=!xs.isEmpty)\/∃kvs,H p=some (.dK kvs)/\k=!kvs.isEmpty
 | _=>False
theorem FW{Z:Type}{kvs:List (Z×V)}{vs:List (Z×Value)}(r:KV kvs vs):(!vs.isEmpty)=!kvs.isEmpty:=by
 cases r<;>rfl
theorem zv{xs:List V}{hE:List Value}(r:Vals xs hE):(!hE.toArray.isEmpty)=!xs.isEmpty:=by
 cases r<;>simp
theorem uk:(sizeLine:Nat)<2 ^ 63:=by rw[acG];decide
theorem PZ:Xs X (λx H Q=>∃k,Ti X.K x H k/\Q k H):=by
 intro c_ s Z H x v Q I rx h
 obtain⟨k,e,q⟩:=h
 have hl:=uk
 have hs:sizeLine=16777216:=acG
 cases x with
 | jc=>
  cases rx
  have e':k=false:=e
  subst e'
  exact truthy_none ⟨H,I,q⟩
 | bl b=>
  cases rx
  have e':k=b:=e
  subst e'
  exact abM ⟨H,I,q⟩
 | int i=>
  obtain⟨t,rfl⟩:=rx
  have e':k=(i != 0):=e
  subst e'
  exact PySem.P.truthy_int ⟨H,I,q⟩
 | str y=>
  obtain⟨t,rfl⟩:=rx
  obtain⟨hy,e'⟩:y.length<=sizeLine/\k=((y.length:Int) != 0):=e
  subst e'
  exact PySem.P.truthy_str (by omega) ⟨H,I.tok _,q⟩
 | D7 y=>
  obtain⟨t,rfl⟩:=rx
  obtain⟨hy,e'⟩:y.size<=sizeLine/\k=((y.size:Int) != 0):=e
  subst e'
  exact W.truthy_bytes (by omega) ⟨H,I.tok _,q⟩
 | ref p=>
  cases rx
  have e':(∃xs,gC X.K H p xs/\k=!xs.isEmpty)\/(∃xs,ox X.K H p xs/\k=!xs.isEmpty)\/∃kvs,H p=some (.dK kvs)/\k=!kvs.isEmpty:=e
  rcases e' with⟨xs,hx,e'⟩|⟨xs,hx,e'⟩|⟨kvs,hx,e'⟩
  ·subst e'
   obtain⟨hE,r,pl,hz⟩:=I.list hx
   have hlen:=r.length
   exact wpAny_truthy_list pl.isList (by simp only [aaz];omega) ⟨H,I.tok _,by rw[zv r];exact q⟩
  ·subst e'
   obtain⟨hE,r,pl,hz⟩:=I.tuple hx
   have hlen:=r.length
   exact truthy_tuple pl (by simp only [aaz];omega) ⟨H,I.tok _,by rw[zv r];exact q⟩
  ·subst e'
   obtain⟨hz,hS,vs,r,m⟩:kvs.length<=sizeLine/\(p ==sysModules)=false/\∃vs,KV kvs vs/\s.heap.DictOf (jd X.prog X.w) p vs:=I.iK p _ hx
   have hlen:kvs.length=vs.length:=aau r
   exact wpAny_truthy_dict hS m (by omega) ⟨H,I.tok _,by rw[FW r];exact q⟩
 | _=>exact(show False from e).elim
theorem uW(ha:PE X a ta)(he:∀whole,isTrue a X.env whole=(do let v <-whole;standAt a.pos;holding [v] (truthy v))) :
  PT X a (λZ H Q=>ta Z H λx H'=>∃k,Ti X.K x H' k/\Q k H'):=by
 intro c_ s Z H Q I h
 exact isTrue_plain (i3 (ha c_ s Z H _ I h) λv s1 ⟨x,H1,I1,r1,q1⟩=>PZ c_ s1 Z H1 x v Q I1 r1 q1) (he _)
theorem zw:xN X (binaryOp .Add) (λx y H Q=>∃i j,x=.str i/\y=.str j/\i.length+j.length<=sizeLine/\Q (.str (i++j)) H):=by
 intro c_ s Z H x y v u Q I rx ry h
 obtain⟨i,j,rfl,rfl,hz,q⟩:=h
 obtain⟨t,rfl⟩:=rx
 obtain⟨t',rfl⟩:=ry
 exact add_str (λt' tk=>⟨.str (i++j),H,I.tok _,⟨_,rfl⟩,q⟩) hz
theorem vals1{x:V}{us:List Value}(r:Vals [x] us):∃u,us=[u]/\RelV x u:=by
 cases r with
 | cons r1 r2=>cases r2;exact⟨_,rfl,r1⟩
theorem vals2{x y:V}{us:List Value}(r:Vals [x,y] us):∃u w',us=[u,w']/\RelV x u/\RelV y w':=by
 cases r with
 | cons r1 r2=>
  cases r2 with
  | cons r3 r4=>cases r4;exact⟨_,_,rfl,r1,r3⟩
theorem Ik(hc:X.calm=true):uV X (.builtin "max") (λxs H Q=>∃i j,xs=[.int i,.int j]/\Q (.int (if j>i then j else i)) H):=by
 intro c_ s Z H xs us Q I r h
 obtain⟨i,j,rfl,q⟩:=h
 obtain⟨u,w',rfl,⟨t,rfl⟩,⟨t',rfl⟩⟩:=vals2 r
 refine max_two_ints (I.ok.hd hc) λh' tk k=>⟨_,H,I.kept k,?_,q⟩
 by_cases hj:j>i
 ·rw[aax hj,aax hj];exact⟨_,rfl⟩
 ·rw[aav hj,aav hj];exact⟨_,rfl⟩
end
structure FX(h:Heap)(x dx C:Addr)(mA:Qqx):Prop where
 obj:h.get? x=some (W.instObj C dx)
 ns:h.Ns1 dx mA
 ne:dx≠x
theorem Il{h:Heap}{dx:Addr}{mA:Qqx}(n:h.Ns1 dx mA):∃od,h.get? dx=some od/\∀name,W.lookIn name od=some (mA name):=by
 obtain⟨o,es,ep,ho,hd,hk,_,hm⟩:=n
 refine⟨o,ho,λname=>?_⟩
 have e:=hm name
 unfold nsFind findBy at e
 rw[<-Array.find?_toList] at e
 unfold W.lookIn
 rw[hd]
 dsimp only
 split
 ·rename_i y q
  rw[q] at e
  exact abd some e
 ·rename_i q
  rw[q] at e
  have a:es.toList.any (·.refKey)=false:=by
   rw[List.any_eq_false]
   intro y hy
   obtain⟨z,t,Rc⟩:=hk y (Array.mem_toList_iff.mp hy)
   simp[DictEntry.refKey,Rc]
  have a':¬es.toList.any (·.refKey)=true:=by rw[a];exact aaw
  rw[aav a']
  exact abd some e
theorem FX.look{h:Heap}{x dx C:Addr}{mA:Qqx}(I:FX h x dx C mA):∃od,W.InstAt h x (W.instObj C dx) C (some od)/\∀name,W.lookIn name od=some (mA name):=
 let ⟨od,ho,hl⟩:=Il I.ns
 ⟨od,⟨I.obj,rfl,rfl,ho⟩,hl⟩
section
variable{prog:Program}{w:World}{A:Around}{E:Qqq}{s:Shared}{K:Qqy}{x dx C f:Addr}{mA:Qqx}{name:Str}{v:Value}
theorem get_map{expr:Bool}{Q:Qqq}(X:K.In s.heap)(I:FX s.heap x dx C mA)(hg:W.plainGet K C name=true)(hh:W.hasDictIn K C=true)
  (ha:W.findIn K (.ref C) name=some none) (hv:mA name=some v) (hv':W.handedIn v=true) (h:Q v {s with toks:=s.toks+1}) :
  wpAny (model prog w) A (getAttr (.ref x) name expr) Q E s:=by
 obtain⟨od,J,hl⟩:=I.look
 exact W.get_value X J (W.plainGet_of hg).1 (W.findObj_own hh ha rfl (by rw[hl,hv])) hv' h
theorem JM{pl:Sem Bool}{Q:Value×List Value->Shared->Prop}(X:K.In s.heap)(I:FX s.heap x dx C mA)(hg:W.plainGet K C name=true)
  (hf:W.findIn K (.ref C) name=some (some (.ref f))) (ht:W.isFn K (.ref f)=true) (hv:mA name=none) (h:Q (.ref f,[.ref x]) s) :
  wpAny (model prog w) A (getMethod (.ref x) name pl) Q E s:=by
 obtain⟨od,J,hl⟩:=I.look
 exact W.method_fn X J (W.plainGet_of hg).1 (W.plainGet_of hg).2 hf (acn.mp ht) (by show(W.lookIn name od).map (·.isSome)=some false;rw[hl,hv];rfl) h
theorem ME{ns:List Str}{Q:Unit->Shared->Prop}(X:K.In s.heap)(I:FX s.heap x dx C mA)
  (hs:W.findIn K (.ref C) "__setattr__"=some (some (.builtin "object.__setattr__"))) (hp:W.plainOver K C=true) (ht:W.takerIn K C name=some none) (hh:W.hasDictIn K C=true)
  (hw:PySem.Within mA ns) (hsz:ns.length<=sizeLine)
  (h:∀h',FX h' x dx C (λy=>if y=name then some v else mA y)->Heap.SameBut dx s.heap h'->Q () {s with heap:=h',toks:=s.toks+2}) :
  wpAny (model prog w) A (setAttr (.ref x) name v) Q E s:=by
 obtain⟨od,J,hl⟩:=I.look
 refine W.set_plain X J hs (W.osa_open (s:={s with toks:=s.toks+1}) (r:=none) X J hp ht λb=>?_)
 obtain⟨cd,hc,Ur⟩:=W.any_some hh
 have hx:s.heap.get? x=some ⟨.ref C,some dx,.plain,#[]⟩:=I.obj
 refine UU (aay (UU (UU (wpAny_loadPart hx (UU (W.Looks.here (s:={s with toks:=s.toks+1}) (W.looks_clsIn X hc) ?_))))))
 rw[Ur]
 refine aay (a:=some dx) (UU (aay (UU ?_)))
 refine wpAny_nsSet1 (s:={s with toks:=s.toks+1}) I.ns λh' Rf Fv=>?_
 obtain⟨oD,esD,epD,hoD,hdD,hcD⟩:=Rf.count (PySem.Within.cons name v hw)
 refine UU (wpAny_lookBehind hoD (by rw[hdD];exact pastItsLine_dict (aam hcD (by rw[aah];omega))) ?_)
 exact aay (h _ ⟨(Fv.2 _ (ab0 I.ne)).trans I.obj,Rf,I.ne⟩ Fv)
theorem JN{R:Result->Shared->Prop}{vs:List Value}{kw:List (Str×Value)}(X:K.In s.heap)(hm:W.makesIn K C=true)
  (hi:W.findIn K (.ref C) "__init__"=some (some (.ref f))) (hf:W.typeIn K (.ref f)=some (.type "function"))
  (h:codeAny (model prog w) (A.under (.builtin "type.__call__" ⟨.ref C::vs,kw⟩)) (.call (.ref f) ⟨.ref (s.heap.objs.size+1)::vs,kw⟩) (W.InitBack (s.heap.objs.size+1) R)
   {s with heap:=(s.heap.push W.emptyDict).push (W.instObj C s.heap.objs.size)}) :
  codeAny (model prog w) A (.call (.ref C) ⟨vs,kw⟩) R s:=by
 obtain⟨hh,g,d,t,os⟩:=s
 exact W.make_core (W.makes_of X hm) (W.looks_findIn X hi) (λself=>W.bind_fn X self hf) (.inl rfl) h
end
noncomputable def jD(f:Str)(v:V):List (Str×V)->List (Str×V)
 | []=>[(f,v)]
 | (g,x)::r=>if g=f then(g,v)::r else(g,x)::jD f v r
theorem xP(f g:Str)(v:V):∀fs:List (Str×V),(jD f v fs).lookup g=if g=f then some v else fs.lookup g
 | []=>by
  show List.lookup g [(f,v)]=_
  by_cases h:g=f
  ·have hb:(g ==f)=true:=acn.mpr h
   simp only [List.lookup,hb,aax h]
  ·have hb:(g ==f)=false:=beq_eq_false_iff_ne.mpr h
   simp only [List.lookup,hb,aav h]
 | (k,x)::r=>by
  have ih:=xP f g v r
  rw[show jD f v ((k,x)::r)=(if k=f then(k,v)::r else(k,x)::jD f v r) from rfl]
  by_cases hk:k=f
  ·rw[aax hk]
   by_cases h:g=k
   ·have hb:(g ==k)=true:=acn.mpr h
    simp only [List.lookup,hb,aax (h.trans hk)]
   ·have hb:(g ==k)=false:=beq_eq_false_iff_ne.mpr h
    simp only [List.lookup,hb,aav (λe:g=f=>h (e.trans hk.symm))]
  ·rw[aav hk]
   by_cases h:g=k
   ·have hb:(g ==k)=true:=acn.mpr h
    simp only [List.lookup,hb,aav (λe:g=f=>hk (h.symm.trans e))]
   ·have hb:(g ==k)=false:=beq_eq_false_iff_ne.mpr h
    simp only [List.lookup,hb]
    exact ih
theorem wC(f:Str)(v:V):∀fs:List (Str×V),f∈(jD f v fs).map (·.1)/\∀g,g∈fs.map (·.1)->g∈(jD f v fs).map (·.1)
 | []=>⟨by simp[jD],λg h=>by simp at h⟩
 | (k,x)::r=>by
  obtain⟨i1,i2⟩:=wC f v r
  rw[show jD f v ((k,x)::r)=(if k=f then(k,v)::r else(k,x)::jD f v r) from rfl]
  by_cases hk:k=f
  ·rw[aax hk]
   subst hk
   exact⟨by simp,λg h=>by simpa using h⟩
  ·rw[aav hk]
   refine⟨?_,λg h=>?_⟩
   ·rw[aaK]
    exact aal _ i1
   ·rw[aaK] at h ⊢
    rcases aag.mp h with e|e
    ·exact aag.mpr (.inl e)
    ·exact aal _ (i2 g e)
theorem xQ(f:Str)(v:V):∀fs:List (Str×V),(jD f v fs).length<=fs.length+1
 | []=>by simp[jD]
 | (k,x)::r=>by
  have ih:=xQ f v r
  rw[show jD f v ((k,x)::r)=(if k=f then(k,v)::r else(k,x)::jD f v r) from rfl]
  by_cases hk:k=f
  ·rw[aax hk,aah,aah];omega
  ·rw[aav hk,aah,aah];omega
theorem pw.some_of{v:V}{o:Option Value}(r:pw (some v) o):∃u,o=some u/\RelV v u:=by
 cases o with
 | none=>exact(show False from r).elim
 | some u=>exact⟨u,rfl,r⟩
theorem pw.none_of{o:Option Value}(r:pw none o):o=none:=by
 cases o with
 | none=>rfl
 | some u=>exact(show False from r).elim
theorem Im{v:V}{u:Value}(r:RelV v u):W.handedIn u=true:=by
 cases v with
 | jc=>cases (show u=Value.none from r);rfl
 | bl b=>cases (show u=Value.bool b from r);rfl
 | int i=>obtain⟨t,e⟩:=(show ∃t,u=Value.int i t from r);cases e;rfl
 | str x=>obtain⟨t,e⟩:=(show ∃t,u=Value.str x t from r);cases e;rfl
 | D7 b=>obtain⟨t,e⟩:=(show ∃t,u=Value.bytes b t from r);cases e;rfl
 | Mj b=>obtain⟨t,e⟩:=(show ∃t,u=Value.float b t from r);cases e;rfl
 | ref a=>cases (show u=Value.ref a from r);rfl
 | ty n=>cases (show u=Value.type n from r);rfl
section
variable{P:Program}{w:World}{H H':Hp}{h h':Heap}{a C dx:Addr}{fs fs':List (Str×V)}
theorem y_(iK:rq P w H h)(e:H a=some (.ins C dx fs)):∃mA,FX h a dx C mA/\(∀f,pw (fs.lookup f) (mA f))/\PySem.Within mA (fs.map (·.1))/\fs.length<=1000/\H dx=some (.own a):=by
 obtain⟨d,z,ne,ob,mA,n,r,q⟩:=(show i0 P w H h a (.ins C dx fs) from iK a _ e)
 exact⟨mA,⟨ob,n,ne⟩,r,q,z,d⟩
end
structure FN(K:Qqy)(C:Addr):Prop where
 pg:W.plainGet K C Str.empty=true
 hd:W.hasDictIn K C=true
 po:W.plainOver K C=true
 sa:W.findIn K (.ref C) "__setattr__"=some (some (.builtin "object.__setattr__"))
theorem FN.get{K:Qqy}{C:Addr}(c:FN K C)(f:Str):W.plainGet K C f=true:=c.pg
def jU(K:Qqy)(C:Addr)(f:Str):Prop:=W.findIn K (.ref C) f=some none
theorem jU.Tj{K:Qqy}{C:Addr}{f:Str}(n:jU K C f):W.takerIn K C f=some none:=by
 unfold W.takerIn
 rw[show W.findIn K (.ref C) f=some none from n]
 rfl
structure Meth(K:Qqy)(C:Addr)(m:Str)(f:Addr):Prop where
 at_:W.findIn K (.ref C) m=some (some (.ref f))
 fn:W.isFn K (.ref f)=true
 kp:W.keepIn K (.ref f)=true
section
variable{X:Cx}{c_:Qqz}{Z:St}{H:Hp}{s:Shared}{a C dx:Addr}{fs:List (Str×V)}{f:Str}{v:V}{A:Around}{E:Qqq}
theorem FY{b:Bool}{Q:Qqq}(I:Inv X c_ Z H s)(e:H a=some (.ins C dx fs))(c:FN X.K C)(n:jU X.K C f)(l:fs.lookup f=some v)
  (h:∀u s',Inv X c_ Z H s'->RelV v u->Q u s'):wpAny (model X.prog X.w) A (getAttr (.ref a) f b) Q E s:=by
 obtain⟨mA,O,r,_,_,_⟩:=y_ I.iK e
 obtain⟨u,hu,ru⟩:=pw.some_of (v:=v) (o:=mA f) (by rw[<-l];exact r f)
 exact get_map I.xM O (c.get f) c.hd n hu (Im ru) (h u _ (I.tok _) ru)
theorem zx{m:Str}{g:Addr}{pl:Sem Bool}{Q:Value×List Value->Shared->Prop}(I:Inv X c_ Z H s)(e:H a=some (.ins C dx fs))(c:FN X.K C)(k:Meth X.K C m g)(l:fs.lookup m=none)
  (h:Q (.ref g,[.ref a]) s):wpAny (model X.prog X.w) A (getMethod (.ref a) m pl) Q E s:=by
 obtain⟨mA,O,r,_,_,_⟩:=y_ I.iK e
 have hn:mA m=none:=pw.none_of (by rw[<-l];exact r m)
 exact JM I.xM O (c.get m) k.at_ k.fn hn h
theorem FZ{y:V}{u:Value}{Q:Unit->Shared->Prop}(I:Inv X c_ Z H s)(e:H a=some (.ins C dx fs))(c:FN X.K C)(n:jU X.K C f)(hl:fs.length<1000)(ry:RelV y u)
  (h:∀s',Inv X c_ Z (upd H a (.ins C dx (jD f y fs))) s'->Q () s'):wpAny (model X.prog X.w) A (setAttr (.ref a) f u) Q E s:=by
 obtain⟨mA,O,r,wi,_,ho⟩:=y_ I.iK e
 have hz:(fs.map (·.1)).length<=sizeLine:=by rw[O4,acG];omega
 refine ME I.xM O c.sa c.po n.Tj c.hd wi hz λh' O' sb=>h _ ?_
 have hd:∃o,h'.get? dx=some o:=let ⟨o,_,_,e',_⟩:=O'.ns;⟨o,e'⟩
 refine I.write (x:=a) (e:=dx) (by rw[e];exact True.intro) (.inr ho) (λb q hb z=>(sb.2 b hb).trans z) hd ?_
 refine⟨by rw[d_ O.ne];exact ho,?_,O.ne,O'.obj,_,O'.ns,λg=>?_,λg hg=>?_⟩
 ·have:=xQ f y fs;omega
 ·show pw ((jD f y fs).lookup g) (if g=f then some u else mA g)
  rw[xP]
  by_cases q:g=f
  ·rw[aax q,aax q];exact ry
  ·rw[aav q,aav q];exact r g
 ·by_cases q:g=f
  ·rw[q];exact(wC f y fs).1
  ·refine(wC f y fs).2 g (wi g λz=>hg ?_)
   show(if g=f then some u else mA g)=none
   rw[aav q];exact z
theorem Inv.made(I:Inv X c_ Z H s):Inv X c_ Z (upd (upd H s.heap.objs.size (.own (s.heap.objs.size+1))) (s.heap.objs.size+1) (.ins C s.heap.objs.size []))
  {s with heap:=(s.heap.push W.emptyDict).push (W.instObj C s.heap.objs.size)}:=by
 have e1:(s.heap.push W.emptyDict).get? s.heap.objs.size=some W.emptyDict:=aaN s.heap rfl
 have e2:((s.heap.push W.emptyDict).push (W.instObj C s.heap.objs.size)).get? (s.heap.objs.size+1)=some (W.instObj C s.heap.objs.size):=by
  have:=aaN (s.heap.push W.emptyDict) (o:=W.instObj C s.heap.objs.size) rfl
  rwa [Heap.size_push] at this
 have e3:(s.heap.push W.emptyDict).Ns s.heap.objs.size (λ_=>none):=⟨W.emptyDict,#[],_,e1,rfl,(λe he=>absurd he (by simp)),λ_=>rfl⟩
 have I1:=I.laid (a:=s.heap.objs.size) (o:=.own (s.heap.objs.size+1)) (h':=s.heap.push W.emptyDict) (t':=s.toks) (λb u q=>aaB _ q) (XU _) ⟨_,e1⟩
 refine I1.laid (a:=s.heap.objs.size+1) (o:=.ins C s.heap.objs.size []) (t':=s.toks) (λb u q=>aaB _ q) (Nat.le_of_eq (Heap.size_push _ _)) ?_
 have ne:s.heap.objs.size≠s.heap.objs.size+1:=aa0 (acC _)
 refine⟨by rw[d_ ne,b_],aaY _,ne,e2,λ_=>none,(Heap.Ns1.of_empty e3).at λo q=>aaB _ q,λ_=>True.intro,λy hy=>absurd rfl hy⟩
theorem MF{prog:Program}{w:World}{env:Env}{e:Expr}{f:Str}{pos:Pos}{s:Shared}{Q:Qqq}(hb:attributeBase e f env (eval e env)=eval e env)
  (h:wpAny (model prog w) A (eval e env) (λo s1=>wpAny (model prog w) A (getAttr o f true) Q E s1) E s):wpAny (model prog w) A (eval (.Attribute e f pos) env) Q E s:=
 Attribute_any_ h (by rw[arm_eval_Attribute,hb])
end
def Xv(K:Qqy)(ta:TE)(f:Str):TE:=λZ H Q=>ta Z H λx H1=>∃a C dx fs v,x=.ref a/\H1 a=some (.ins C dx fs)/\FN K C/\jU K C f/\fs.lookup f=some v/\Q v H1
def Xw(K:Qqy)(ta tv:TE)(f:Str):TS:=λD Z H=>tv Z H λy H1=>ta Z H1 λx H2=>∃a C dx fs,x=.ref a/\H2 a=some (.ins C dx fs)/\FN K C/\jU K C f/\fs.length<1000/\
 D.nx Z (upd H2 a (.ins C dx (jD f y fs)))
section
variable{X:Cx}{o e value:Expr}{f:Str}{pos pos' Rg:Pos}{ta tv:TE}
theorem gA(he:PE X e ta)(hb:attributeBase e f X.env (eval e X.env)=eval e X.env):PE X (.Attribute e f pos) (Xv X.K ta f):=by
 intro c_ s Z H Q I h
 refine MF hb (i3 (he c_ s Z H _ I h) λu s1 iH=>?_)
 obtain⟨x,H1,I1,rx,a,C,dx,fs,v,ex,ea,c,n,l,q⟩:=iH
 subst ex
 obtain rfl:u=Value.ref a:=rx
 exact FY I1 ea c n l λu' s2 I2 ru=>⟨v,H1,I2,ru,q⟩
theorem lJ(ha:PE X o ta)(hv:PE X value tv)(hs:swapsWith value (some (.Attribute o f pos')) pos.line X.env=pure false):PS X (.Assign [.Attribute o f pos'] value pos) (Xw X.K ta tv f):=by
 intro c_ s Z H D I h
 refine plainObj_wpAny_Assign_Attribute (i3 (hv c_ s Z H _ I h) λu s1 iH=>?_) hs
 obtain⟨y,H1,I1,ry,q⟩:=iH
 refine i3 (ha c_ s1 Z H1 _ I1 q) λov s2 Jo=>?_
 obtain⟨x,H2,I2,rx,a,C,dx,fs,ex,ea,c,n,l,q2⟩:=Jo
 subst ex
 obtain rfl:ov=Value.ref a:=rx
 exact FZ I2 ea c n l ry λs3 I3=>⟨Z,_,I3,q2⟩
end
section
variable{X:Cx}{c_:Qqz}{Z:St}{H:Hp}{s:Shared}{A:Around}{E:Qqq}{Q:Qqq}{c:Value}{b:Bool}
inductive wD(K:Qqy)(H:Hp):V->Value->Prop where
 | jc:wD K H .jc (.type "NoneType")
 | bl (x:Bool):wD K H (.bl x) (.type "bool")
 | int (i:Int):wD K H (.int i) (.type "int")
 | str (x:Str):wD K H (.str x) (.type "str")
 | Mj (x:UInt64):wD K H (.Mj x) (.type "float")
 | lst {a:Addr} {xs:List V} (e:H a=some (.lst xs)):wD K H (.ref a) (.type "list")
 | ni {a:Addr} {o:Obj} {xs:List V} (e:H a=some (.ni o (.lst xs))):wD K H (.ref a) (.type "list")
 | tup {a:Addr} {xs:List V} (e:H a=some (.tup xs)):wD K H (.ref a) (.type "tuple")
 | dK {a:Addr} {kvs:List (Key×V)} (e:H a=some (.dK kvs)):wD K H (.ref a) (.type "dict")
 | dT {a:Addr} {kvs:List (List Key×V)} (e:H a=some (.dT kvs)):wD K H (.ref a) (.type "dict")
 | ins {a C dx:Addr} {fs:List (Str×V)} (e:H a=some (.ins C dx fs)) (cl:FN K C) (ha:W.findIn K (.ref C) "__class__"=some (some (.builtin "object.__class__")))
  (hn:W.specialIn K (.builtin "object.__class__") "__get__"=some (some (.builtin "getset_descriptor.__get__"))) (htk:W.takesIn K (.builtin "object.__class__")=some true)
  (hm:W.mroIn K C (.type "object")=some true):wD K H (.ref a) (.ref C)
theorem Io{x:V}{u t:Value}(I:Inv X c_ Z H s)(rx:RelV x u)(ty:wD X.K H x t)(e:W.kitOne X.K t c=some b)(h:∀tk,Q (.bool b) {s with toks:=tk}) :
  wpAny (model X.prog X.w) A (call (.builtin "isinstance") [u,c]) Q E s:=by
 cases ty with
 | jc=>cases (show u=Value.none from rx);exact abB W.kitx_none I.xM True.intro e (λz=>nomatch z) h
 | bl y=>cases (show u=Value.bool y from rx);exact abB W.kitx_bool I.xM True.intro e (λz=>nomatch z) h
 | int i=>obtain⟨t,q⟩:=(show ∃t,u=Value.int i t from rx);cases q;exact abB W.kitx_int I.xM True.intro e (λz=>nomatch z) h
 | str y=>obtain⟨t,q⟩:=(show ∃t,u=Value.str y t from rx);cases q;exact abB W.kitx_str I.xM True.intro e (λz=>nomatch z) h
 | Mj y=>obtain⟨t,q⟩:=(show ∃t,u=Value.float y t from rx);cases q;exact abB W.kitx_float I.xM True.intro e (λz=>nomatch z) h
 | @lst a xs ea=>
  cases (show u=Value.ref a from rx)
  obtain⟨_,_,n,_,h1⟩:=(show i0 X.prog X.w H s.heap a (.lst xs) from I.iK a _ ea)
  exact abB W.kitx_list I.xM ⟨_,h1,rfl⟩ e (λz=>nomatch z) h
 | @ni a ob xs ea=>
  cases (show u=Value.ref a from rx)
  obtain⟨_,_,_,n,_,h1⟩:=(show i0 X.prog X.w H s.heap a (.ni ob (.lst xs)) from I.iK a _ ea)
  exact abB W.kitx_list I.xM ⟨_,h1,rfl⟩ e (λz=>nomatch z) h
 | @tup a xs ea=>
  cases (show u=Value.ref a from rx)
  obtain⟨_,_,_,p⟩:=(show i0 X.prog X.w H s.heap a (.tup xs) from I.iK a _ ea)
  obtain⟨o,h1,h2,_⟩:=p
  exact abB W.kitx_tuple I.xM ⟨o,h1,h2⟩ e (λz=>nomatch z) h
 | @dK a kvs ea=>
  cases (show u=Value.ref a from rx)
  obtain⟨_,_,vs,_,p⟩:=(show i0 X.prog X.w H s.heap a (.dK kvs) from I.iK a _ ea)
  obtain⟨o,es,ep,h1,h2,_⟩:=p
  exact abB W.kitx_dict I.xM ⟨o,h1,h2.1⟩ e (λz=>nomatch z) h
 | @dT a kvs ea=>
  cases (show u=Value.ref a from rx)
  obtain⟨_,_,xs,_,o,es,ep,h1,h2,_⟩:=(show i0 X.prog X.w H s.heap a (.dT kvs) from I.iK a _ ea)
  exact abB W.kitx_dict I.xM ⟨o,h1,h2.1⟩ e (λz=>nomatch z) h
 | @ins a C dx fs ea cl ha hn htk hm=>
  cases (show u=Value.ref a from rx)
  obtain⟨mA,O,_⟩:=y_ I.iK ea
  obtain⟨od,J,_⟩:=O.look
  exact abB (W.kitx_own (cl.get _) cl.hd ha hn htk hm) I.xM J e (λz=>nomatch z) h
end
structure kD(k:Nat)(A:Around):Prop where
 hd:A.handled=none
 dp:A.depth+3*k+5<recursionLimit
 un:A.units+16*k+200<cLine
theorem kD.mono{j k:Nat}{A:Around}(r:kD k A)(h:j<=k):kD j A:=⟨r.hd,by have:=r.dp;omega,by have:=r.un;omega⟩
theorem kD.deeper{k:Nat}{A:Around}(r:kD (k+1) A)(env:Env):kD k (A.deeper env):=
 ⟨r.hd,by have:=r.dp;show A.depth+1+3*k+5<_;omega,by have:=r.un;show A.units+3+16*k+200<_;omega⟩
theorem F_{A:Around}{C:Addr}{us:List Value}{kw:List (Str×Value)}:(A.under (.builtin "type.__call__" ⟨.ref C::us,kw⟩)).depth=A.depth+1:=by
 first|rfl|simp[Around.under,Code.weight,Code.isCreation,Code.isGuard,Code.isCaller,Code.frames,Code.isFrame,guardIds]
theorem Ga{A:Around}{C:Addr}{us:List Value}{kw:List (Str×Value)}:(A.under (.builtin "type.__call__" ⟨.ref C::us,kw⟩)).units=A.units+1:=by
 first|rfl|simp[Around.under,Code.cUnits,Code.frames,Code.isFrame]
theorem kD.make{k:Nat}{A:Around}(r:kD (k+1) A)(C:Addr)(us:List Value)(kw:List (Str×Value)):kD k (A.under (.builtin "type.__call__" ⟨.ref C::us,kw⟩)):=
 ⟨r.hd,by have:=r.dp;rw[F_];omega,by have:=r.un;rw[Ga];omega⟩
theorem kD.depth{k:Nat}{A:Around}(r:kD k A):A.depth<recursionLimit:=by have:=r.dp;omega
theorem kD.units{k:Nat}{A:Around}(r:kD k A):A.units+64<cLine:=by have:=r.un;omega
def P0:TA:=λ_ H Q=>Q [] H
def Tn(ta:TE)(tr:TA):TA:=λZ H Q=>ta Z H λx H1=>tr Z H1 λxs H2=>Q (x::xs) H2
section
variable{X:Cx}{e:Expr}{es:List Expr}{te:TE}{t:TA}{pos:Pos}
theorem e_:PA X [] P0:=λ_ _ _ _ H Q I h=>abN ⟨[],H,I,.nil,h⟩
theorem a_(ha:PE X e te)(hr:PA X es t)(hs:starEach (e::es) X.env=(false,eval e X.env)::starEach es X.env:=by rfl):PA X (e::es) (Tn te t):=by
 intro pos c_ s Z H Q I h
 rw[hs]
 show wpAny _ _ (spliced ((false,eval e X.env)::backTo pos (starEach es X.env))) _ _ s
 refine abx (i3 (ha c_ s Z H _ I h) λu s1 iH=>?_)
 obtain⟨x,H1,I1,r1,q1⟩:=iH
 exact i3 (hr pos c_ s1 Z H1 _ I1 q1) λus s2 ⟨xs,H2,I2,r2,q2⟩=>⟨x::xs,H2,I2,.cons r1 r2,q2⟩
def Xx(t:TA):TE:=λZ H Q=>t Z H λxs H1=>xs.length<=sizeLine/\∀p,H1 p=none->Q (.ref p) (upd H1 p (.tup xs))
def Xy(t:TA):TE:=λZ H Q=>t Z H λxs H1=>xs.length<=sizeLine/\∀p,H1 p=none->Q (.ref p) (upd H1 p (.lst xs))
theorem Cv{x1}(h:PA X es t):PE X (.Tuple es x1 pos) (Xx t):=by
 intro c_ s Z H Q I hq
 refine wpAny_Tuple_spliced (i3 (h pos c_ s Z H _ I hq) λus s1 iH=>?_)
 obtain⟨xs,H1,I1,r,z,q⟩:=iH
 refine⟨by rw[<-r.length];exact z,?_⟩
 have hf:H1 s1.heap.objs.size=none:=I1.iK.fresh (XU _)
 refine⟨.ref s1.heap.objs.size,upd H1 s1.heap.objs.size (.tup xs),I1.laid (t':=s1.toks) (λb u e=>aaB _ e) (XU _) ?_,rfl,q _ hf⟩
 exact⟨z,us,r,⟨_,aaN _ rfl,rfl,_,rfl⟩⟩
theorem iB(h:PA X es t):PE X (.List es pos) (Xy t):=by
 intro c_ s Z H Q I hq
 refine wpAny_List_spliced (i3 (h pos c_ s Z H _ I hq) λus s1 iH=>?_)
 obtain⟨xs,H1,I1,r,z,q⟩:=iH
 refine⟨by rw[<-r.length];exact z,?_⟩
 have hf:H1 s1.heap.objs.size=none:=I1.iK.fresh (XU _)
 refine⟨.ref s1.heap.objs.size,upd H1 s1.heap.objs.size (.lst xs),I1.laid (t':=s1.toks) (λb u e=>aaB _ e) (XU _) ?_,rfl,q _ hf⟩
 exact⟨z,us,0,r,aaN _ rfl⟩
end
abbrev Sp:=List V->Hp->VK->XK->Prop
abbrev Hl:=List Env->Hp->Shared->XK->Qqq
structure Gb(P:Program)(w:World)(K:Qqy)(mg:Qqx)(base:Heap)(A:Around)(outer:List Env)(s:Shared)(H:Hp):Prop where
 frames:A.frames=some outer
 mod:Mod K mg base
 bs:∀b o,base.get? b=some o->s.heap.get? b=some o/\H b=none
 MB:base.objs.size<=s.heap.objs.size
 uR:s.heap.FunFrames base outer
 Ot:∀b∈uh outer,H b=none
 iK:rq P w H s.heap
 bare:AllBare s.gens
def CE(outer:List Env)(P:Program)(w:World)(H:Hp)(s:Shared)(Q:VK)(u:Value)(s':Shared):Prop:=
 ∃v H',s'.os=s.os/\AllBare s'.gens/\Un (uh outer) [] H H' s.heap s'.heap/\rq P w H' s'.heap/\RelV v u/\Q v H'
def CR(CX:Hl)(outer:List Env)(P:Program)(w:World)(H:Hp)(s:Shared)(Q:VK)(E:XK)(r:Result)(s':Shared):Prop:=
 match r with
 | .ok (.ret u)=>CE outer P w H s Q u s'
 | .ok _=>False
 | .error e=>CX outer H s E e s'
structure ig(P:Program)(w:World)(K:Qqy)(mg:Qqx)(base:Heap)(CX:Hl)(k:Nat)(f:Addr)(fd:FuncData)(ps:List Str)(sp:Sp):Prop where
 len:∀vs H Q E,sp vs H Q E->vs.length=ps.length
 run:∀(A:Around)(outer:List Env)(s:Shared)(H:Hp)(args:Args)(us:List Value)(vs:List V)(Q:VK)(E:XK),kD k A->Gb P w K mg base A outer s H->BindsTo s fd args (ps.zip us)->Vals vs us->sp vs H Q E->
  codeAny (model P w) A (.call (.ref f) args) (CR CX outer P w H s Q E) s
theorem ig.mono{P:Program}{w:World}{K:Qqy}{mg:Qqx}{base:Heap}{CX:Hl}{j k:Nat}{f:Addr}{fd:FuncData}{ps:List Str}{sp:Sp}(F:ig P w K mg base CX j f fd ps sp)(h:j<=k) :
 ig P w K mg base CX k f fd ps sp:=⟨F.len,λA outer s H args us vs Q E hr=>F.run A outer s H args us vs Q E (hr.mono h)⟩
theorem Gb.make{P:Program}{w:World}{K:Qqy}{mg:Qqx}{base:Heap}{A:Around}{outer:List Env}{s:Shared}{H:Hp}(e:Gb P w K mg base A outer s H)(C:Addr)(us:List Value)(kw:List (Str×Value)) :
 Gb P w K mg base (A.under (.builtin "type.__call__" ⟨.ref C::us,kw⟩)) outer s H:=⟨by first|exact e.frames|(simpa[Around.under,Code.envs,Code.isFrame,pushEnvs] using e.frames),e.mod,e.bs,e.MB,e.uR,e.Ot,e.iK,e.bare⟩
section
variable{X:Cx}{c_:Qqz}{Z:St}{H:Hp}{s s':Shared}
theorem Inv.To(I:Inv X c_ Z H s):Gb X.prog X.w X.K X.mg X.base X.A X.stack s H:=
 ⟨I.ok.frames,I.ok.mod,I.bs,aam I.ok.MB I.sz,I.stack,I.Cr,I.iK,I.bare⟩
theorem Inv.after{Q:VK}{u:Value}(I:Inv X c_ Z H s)(h:CE X.stack X.prog X.w H s Q u s'):EP X c_ Z Q u s':=by
 obtain⟨v,H',os,bare,un,iK,r,q⟩:=h
 obtain⟨hh,g,d,t,os'⟩:=s'
 obtain rfl:os'=s.os:=os
 exact⟨v,H',I.call (h':=hh) (g':=g) (d':=d) (t':=t) (ch:=[]) un iK bare (λb z=>absurd z (by simp)),r,q⟩
end
def JO(sp:Sp)(zm:List V)(E:XK)(t:TA):TE:=λZ H Q=>t Z H λvs H1=>sp (vs++zm) H1 Q E
def Hm(C:Addr)(m:Str)(sp:Sp)(zm:List V)(E:XK)(ta:TE)(t:TA):TE:=λZ H Q=>ta Z H λx H1=>∃a dx fs,x=.ref a/\H1 a=some (.ins C dx fs)/\fs.lookup m=none/\
 t Z H1 λvs H2=>sp (x::(vs++zm)) H2 Q E
def Ox(C:Addr)(sp:Sp)(zm:List V)(E:XK)(t:TA):TE:=λZ H Q=>t Z H λvs H1=>∀x dx,H1 x=none->H1 dx=none->dx≠x->
 sp (.ref x::(vs++zm)) (upd (upd H1 dx (.own x)) x (.ins C dx [])) (λv H2=>v=.jc/\Q (.ref x) H2) E
def Binds(K:Qqy)(fd:FuncData)(ps:List Str)(ds:List Value):Prop:=
 ∀(s:Shared)(us:List Value),K.In s.heap->(us++ds).length=ps.length->BindsTo s fd ⟨us,[]⟩ (ps.zip (us++ds))
theorem Binds.all{K:Qqy}{fd:FuncData}{ps:List Str}(h:∀us:List Value,us.length=ps.length->bindArgs fd ⟨us,[]⟩=pure (ps.zip us)):Binds K fd ps []:=λs us _ hl=>by
 rw[aaZ] at hl ⊢
 exact .of_eq (h us hl)
def Passes(CX:Hl)(X:Cx)(E:XK):Prop:=∀(c_:Qqz)(Z:St)(H:Hp)(s:Shared)(e:Value)(s':Shared),Inv X c_ Z H s->CX X.stack H s E e s'->X.xe e s'
section
variable{X:Cx}{CX:Hl}{k:Nat}{f C:Addr}{fd:FuncData}{ps:List Str}{sp:Sp}{zm:List V}{ds:List Value}{E:XK}{x m:Str}{p pos apos:Pos}{e o:Expr}{es:List Expr}{ta:TE}{t:TA}
theorem Ge{c_:Qqz}{Z:St}{H:Hp}{s:Shared}{Q:VK}{us:List Value}{vs:List V}(F:ig X.prog X.w X.K X.mg X.base CX k f fd ps sp)(hr:kD k X.A)(hb:Binds X.K fd ps ds)(hd:Vals zm ds)(hx:Passes CX X E)
  (I:Inv X c_ Z H s) (r:Vals vs us) (h:sp (vs++zm) H Q E):wpAny (model X.prog X.w) X.A (call (.ref f) us) (EP X c_ Z Q) X.xe s:=by
 have r2:Vals (vs++zm) (us++ds):=r.append hd
 have hl:(us++ds).length=ps.length:=by rw[<-r2.length];exact F.len _ _ _ _ h
 refine wpAny_call (codeAny_mono (F.run X.A X.stack s H ⟨us,[]⟩ (us++ds) (vs++zm) Q E hr I.To (hb s us I.xM hl) r2 h) λr s' hq=>?_)
 cases r with
 | error e=>exact hx c_ Z H s e s' I hq
 | ok fl=>
  cases fl with
  | ret u=>exact I.after hq
  | next=>exact False.elim hq
  | brk=>exact False.elim hq
  | cont=>exact False.elim hq
theorem uX(F:ig X.prog X.w X.K X.mg X.base CX k f fd ps sp)(hr:kD k X.A)(hg:Gl X x)(hm:X.mg x=some (.ref f))(hk:W.keepIn X.K (.ref f)=true)(hb:Binds X.K fd ps ds)(hd:Vals zm ds)(hx:Passes CX X E)
  (ha:PA X (e::es) t) (G1:(x ==("__debug__":Str))=false:=by decide) (he:starEach (e::es) X.env=(false,eval e X.env)::starEach es X.env:=by rfl) (nJ:(backTo pos (starEach es X.env)).any (·.1)=false:=by rfl) :
  PE X (.Call (.Name x p) (e::es) [] pos) (JO sp zm E t):=by
 intro c_ s Z H Q I h
 refine wpAny_Call_Name_kw (uS I hg hm ?_ G1)
 refine W.callWith_K (h₀:=X.base) I.ok.mod.RZ hk (i3 (ha pos c_ s Z H _ I h) λus s1 iH=>?_) he nJ
 obtain⟨vs,H1,I1,r,q⟩:=iH
 refine⟨I1.xM,?_⟩
 exact Ge F hr hb hd hx I1 r q
theorem Hn{pl:Sem Bool}(he:PE X o ta)(c:FN X.K C)(hm:Meth X.K C m f)(F:ig X.prog X.w X.K X.mg X.base CX k f fd ps sp)(hr:kD k X.A)(hb:Binds X.K fd ps ds)(hd:Vals zm ds)(hx:Passes CX X E)(ha:PA X (e::es) t)
  (uG:starEach (e::es) X.env=(false,eval e X.env)::starEach es X.env:=by rfl) (nJ:(backTo pos (starEach es X.env)).any (·.1)=false:=by rfl)
  (ht:eval (.Call (.Attribute o m apos) (e::es) [] pos) X.env=(do
   let ov <-eval o X.env
   standAt apos.atName
   let (f,first) <-holding [ov] (getMethod ov m pl)
   callWith pos f first (backTo pos (starEach (e::es) X.env)) (backToKw pos (keywordEach [] X.env))):=by rfl) :
  PE X (.Call (.Attribute o m apos) (e::es) [] pos) (Hm C m sp zm E ta t):=by
 intro c_ s Z H Q I h
 refine W.methodCall_KW (pl:=pl) (i3 (he c_ s Z H _ I h) λu s1 iH=>?_) ht
 obtain⟨x,H1,I1,rx,a,dx,fs,ex,ea,l,q⟩:=iH
 subst ex
 obtain rfl:u=Value.ref a:=rx
 refine zx I1 ea c hm l ?_
 refine W.callWith_K (first:=[.ref a]) (h₀:=X.base) I.ok.mod.RZ hm.kp (i3 (ha pos c_ s1 Z H1 _ I1 q) λus s2 iH=>?_) uG nJ
 obtain⟨vs,H2,I2,r,q2⟩:=iH
 refine⟨I2.xM,?_⟩
 exact Ge (us:=.ref a::us) (vs:=.ref a::vs) F hr hb hd hx I2 (.cons rfl r) q2
theorem Eg{pl:Sem Bool}(he:PE X o ta)(c:FN X.K C)(hm:Meth X.K C m f)(F:ig X.prog X.w X.K X.mg X.base CX k f fd ps sp)(hr:kD k X.A)(hb:Binds X.K fd ps ds)(hd:Vals zm ds)(hx:Passes CX X E)
  (ht:eval (.Call (.Attribute o m apos) [] [] pos) X.env=(do
   let ov <-eval o X.env
   standAt apos.atName
   let (f,first) <-holding [ov] (getMethod ov m pl)
   callWith pos f first (backTo pos (starEach [] X.env)) (backToKw pos (keywordEach [] X.env))):=by rfl) :
  PE X (.Call (.Attribute o m apos) [] [] pos) (Hm C m sp zm E ta P0):=by
 intro c_ s Z H Q I h
 refine W.methodCall_KW (pl:=pl) (i3 (he c_ s Z H _ I h) λu s1 iH=>?_) ht
 obtain⟨x,H1,I1,rx,a,dx,fs,ex,ea,l,q⟩:=iH
 subst ex
 obtain rfl:u=Value.ref a:=rx
 refine zx I1 ea c hm l ?_
 exact W.callWith_K0 (first:=[.ref a]) I1.xM hm.kp (Ge (us:=[.ref a]) (vs:=[.ref a]) F hr hb hd hx I1 (.cons rfl .nil) q)
structure Mk(K:Qqy)(C f:Addr):Prop where
 makes:W.makesIn K C=true
 init:W.findIn K (.ref C) "__init__"=some (some (.ref f))
 fn:W.isFn K (.ref f)=true
 kp:W.keepIn K (.ref C)=true
theorem Eh{c_:Qqz}{Z:St}{H:Hp}{s:Shared}{Q:VK}{us:List Value}{vs:List V}(M:Mk X.K C f)(F:ig X.prog X.w X.K X.mg X.base CX k f fd ps sp)(hr:kD (k+1) X.A)(hb:Binds X.K fd ps ds)(hd:Vals zm ds)
  (hx:Passes CX X E) (I:Inv X c_ Z H s) (r:Vals vs us)
  (h:∀x dx,H x=none->H dx=none->dx≠x->sp (.ref x::(vs++zm)) (upd (upd H dx (.own x)) x (.ins C dx [])) (λv H2=>v=.jc/\Q (.ref x) H2) E) :
  wpAny (model X.prog X.w) X.A (call (.ref C) us) (EP X c_ Z Q) X.xe s:=by
 have hq:=h (s.heap.objs.size+1) s.heap.objs.size (I.iK.fresh (Nat.le_succ _)) (I.iK.fresh (XU _)) (aa0 (acC _))
 have I2:=Inv.made (C:=C) I
 have r2:Vals (V.ref (s.heap.objs.size+1)::(vs++zm)) (Value.ref (s.heap.objs.size+1)::(us++ds)):=.cons rfl (r.append hd)
 have hl:(Value.ref (s.heap.objs.size+1)::us++ds).length=ps.length:=by
  have e:=r2.length
  rw[F.len _ _ _ _ hq] at e
  exact e.symm
 refine wpAny_call (JN (f:=f) I.xM M.makes M.init (acn.mp M.fn) (codeAny_mono (F.run _ X.stack _ _ ⟨Value.ref (s.heap.objs.size+1)::us,[]⟩ (Value.ref (s.heap.objs.size+1)::(us++ds)) _ _ E (hr.make C us [])
  (I2.To.make C us []) (hb _ (Value.ref (s.heap.objs.size+1)::us) I2.xM hl) r2 hq) λr s' Uu=>?_))
 cases r with
 | error e=>exact hx c_ Z _ _ e s' I2 Uu
 | ok fl=>
  cases fl with
  | ret u=>
   obtain⟨v,H',I3,rv,ev,q3⟩:=I2.after Uu
   subst ev
   exact⟨rv,⟨V.ref (s.heap.objs.size+1),H',I3,rfl,q3⟩⟩
  | next=>exact False.elim Uu
  | brk=>exact False.elim Uu
  | cont=>exact False.elim Uu
theorem uY(M:Mk X.K C f)(F:ig X.prog X.w X.K X.mg X.base CX k f fd ps sp)(hr:kD (k+1) X.A)(hg:Gl X x)(hm:X.mg x=some (.ref C))(hb:Binds X.K fd ps ds)(hd:Vals zm ds)(hx:Passes CX X E)
  (ha:PA X (e::es) t) (G1:(x ==("__debug__":Str))=false:=by decide) (he:starEach (e::es) X.env=(false,eval e X.env)::starEach es X.env:=by rfl) (nJ:(backTo pos (starEach es X.env)).any (·.1)=false:=by rfl) :
  PE X (.Call (.Name x p) (e::es) [] pos) (Ox C sp zm E t):=by
 intro c_ s Z H Q I h
 refine wpAny_Call_Name_kw (uS I hg hm ?_ G1)
 refine W.callWith_K (h₀:=X.base) I.ok.mod.RZ M.kp (i3 (ha pos c_ s Z H _ I h) λus s1 iH=>?_) he nJ
 obtain⟨vs,H1,I1,r,q⟩:=iH
 refine⟨I1.xM,?_⟩
 exact Eh M F hr hb hd hx I1 r q
theorem JP(M:Mk X.K C f)(F:ig X.prog X.w X.K X.mg X.base CX k f fd ps sp)(hr:kD (k+1) X.A)(hg:Gl X x)(hm:X.mg x=some (.ref C))(hb:Binds X.K fd ps ds)(hd:Vals zm ds)(hx:Passes CX X E)
  (G1:(x ==("__debug__":Str))=false:=by decide):PE X (.Call (.Name x p) [] [] pos) (Ox C sp zm E P0):=by
 intro c_ s Z H Q I h
 refine wpAny_Call_Name_kw (uS I hg hm ?_ G1)
 exact W.callWith_K0 I.xM M.kp (Eh (us:=[]) M F hr hb hd hx I .nil h)
end
def PK(X:Cx)(kws:List Keyword)(t:TA):Prop:=
 ∀(pos:Pos)(c_:Qqz)(s:Shared)(Z:St)(H:Hp)(Q:List V->Hp->Prop),Inv X c_ Z H s->t Z H Q->wpAny (model X.prog X.w) X.A (evalAll ((backToKw pos (keywordEach kws X.env)).map (·.2))) (AP X c_ Z Q) X.xe s
section
variable{X:Cx}{CX:Hl}{k:Nat}{f C:Addr}{fd:FuncData}{ps ks:List Str}{sp:Sp}{E:XK}{x m:Str}{p pos apos kpos:Pos}{e o:Expr}{es:List Expr}{kws:List Keyword}{te ta:TE}{t tk:TA}{nm:Option Str}
variable{g:List Value->List Value->List Value}{gV:List V->List V->List V}
end
structure gw(N P:List Str)(sc:Scope):Prop where
 kind:sc.kind=.function
 co:sc.isCoroutine=false
 gen:sc.isGenerator=false
 nd:N.Nodup
 pre:N.take P.length=P
 par:∀x∈P,sc.names.lookup x=some .local\/sc.names.lookup x=some .cell
 P1:∀y∈sc.names,y.2≠.free
theorem BE{kindOf:Str->Option NameKind}{x:Str}:∀{binds:List (Str×Value)} {m:Qqx},(∀v,(x,v)∉binds)->bindL kindOf binds m x=m x
 | [],_,_=>rfl
 | (n,v)::r,m,h=>by
  unfold bindL
  rw[BE λw hw=>h w (aal _ hw)]
  split
  ·have:x≠n:=by rintro rfl;exact h v aaC
   simp[this]
  ·rfl
theorem BF{kindOf:Str->Option NameKind}{x:Str}:∀{binds:List (Str×Value)} {m:Qqx},(∀v,(x,v)∉binds)->bindC kindOf binds m x=m x
 | [],_,_=>rfl
 | (n,v)::r,m,h=>by
  unfold bindC
  rw[BF λw hw=>h w (aal _ hw)]
  split
  ·rfl
  ·have:x≠n:=by rintro rfl;exact h v aaC
   simp[this]
theorem BG{kindOf:Str->Option NameKind}{x:Str}{v:Value}:∀{P:List Str} {vs:List Value} {i:Nat} {m:Qqx},P.Nodup->P[i]?=some x->vs[i]?=some v->kindOf x=some .local->
  bindL kindOf (P.zip vs) m x=some v
 | [],_,_,_,_,h,_,_=>by simp at h
 | _::_,[],_,_,_,_,h,_=>by simp at h
 | p::P,w::vs,0,m,nd,h1,h2,hk=>by
  simp at h1 h2;subst h1;subst h2
  show bindL kindOf ((p,w)::P.zip vs) m p=_
  unfold bindL
  rw[BE λv hv=>(aa8.mp nd).1 (List.of_mem_zip hv).1,aax hk]
  simp
 | p::P,w::vs,i+1,m,nd,h1,h2,hk=>by
  show bindL kindOf ((p,w)::P.zip vs) m x=_
  unfold bindL
  exact BG (i:=i) (aa8.mp nd).2 (by simpa using h1) (by simpa using h2) hk
theorem BH{kindOf:Str->Option NameKind}{x:Str}{v:Value}:∀{P:List Str} {vs:List Value} {i:Nat} {m:Qqx},P.Nodup->P[i]?=some x->vs[i]?=some v->kindOf x≠some .local->
  bindC kindOf (P.zip vs) m x=some v
 | [],_,_,_,_,h,_,_=>by simp at h
 | _::_,[],_,_,_,_,h,_=>by simp at h
 | p::P,w::vs,0,m,nd,h1,h2,hk=>by
  simp at h1 h2;subst h1;subst h2
  show bindC kindOf ((p,w)::P.zip vs) m p=_
  unfold bindC
  rw[BF λv hv=>(aa8.mp nd).1 (List.of_mem_zip hv).1,aav hk]
  simp
 | p::P,w::vs,i+1,m,nd,h1,h2,hk=>by
  show bindC kindOf ((p,w)::P.zip vs) m x=_
  unfold bindC
  exact BH (i:=i) (aa8.mp nd).2 (by simpa using h1) (by simpa using h2) hk
noncomputable def start(N:List Str)(vs:List V):St:=vs.map some++List.replicate (N.length-vs.length) none
noncomputable def wF(CX:Hl)(P:Program)(w:World)(K:Qqy)(mg:Qqx)(base:Heap)(N:List Str)(qual:Str)(scope:Scope)(f:Addr)(cd:Value)(A:Around)(outer:List Env)(s:Shared)(H:Hp)(E:XK):Cx where
 prog:=P
 w:=w
 K:=K
 mg:=mg
 base:=base
 A:=A.deeper (envOfC qual scope s.heap.objs.size f cd)
 N:=N
 s₀:=s
 H₀:=H
 env:=envOfC qual scope s.heap.objs.size f cd
 outer:=outer
 stack:=envOfC qual scope s.heap.objs.size f cd::outer
 ex:=[]
 calm:=true
 fn:=λ_=>true
 pn:=[]
 xe:=λe s'=>wpAny (model P w) (A.deeper (envOfC qual scope s.heap.objs.size f cd)) (leaving (envOfC qual scope s.heap.objs.size f cd) e) (λ_ Jp=>CX outer H s E e Jp) (λe' Jp=>CX outer H s E e' Jp) s'
theorem Ei{sc:Scope}{n:Nat}{x:Str}(h:sc.names.lookup x=some .cell):∃c,(cellsFrom n sc.names []).lookup x=some c:=by
 have q:=W.cellsFrom_some sc.names n [] (.inl h)
 exact Option.isSome_iff_exists.mp q
theorem Ip{CX:Hl}{P:Program}{w:World}{K:Qqy}{mg:Qqx}{base:Heap}{N ps:List Str}{qual:Str}{scope:Scope}{f:Addr}{cd:Value}{A:Around}{outer:List Env}{s s1:Shared}{H:Hp}{E:XK}{us:List Value}{vs:List V}
  (S:gw N ps scope) (hd:A.handled=none) (e0:Gb P w K mg base A outer s H) (hl:vs.length=ps.length) (r:Vals vs us)
  (x:InCallC s s.heap.objs.size (bindL (envOfC qual scope s.heap.objs.size f cd).kindOf (ps.zip us) λ_=>none) (cellsFrom (s.heap.objs.size+1) scope.names []) (bindC (envOfC qual scope s.heap.objs.size f cd).kindOf (ps.zip us) λ_=>none) s1) :
  Inv (wF CX P w K mg base N qual scope f cd A outer s H E) [] (start N vs) H s1:=by
 have nJ:ps.length<=N.length:=by have:=abd List.length S.pre;rw[aaO] at this;omega
 obtain⟨h1,tk,rfl,hk⟩:=x.done
 have OW:∀b:Addr,b∉(wF CX P w K mg base N qual scope f cd A outer s H E).ex:=λb z=>absurd (show b∈([]:List Addr) from z) (by simp)
 refine⟨⟨e0.mod,S.kind,rfl,rfl,XU _,λy z c h1 h2=>?_,λy hy=>?_,λy c _ h=>?_,λ_=>hd,Around.frames_deeper e0.frames,.inr ⟨rfl,rfl⟩,λb z=>absurd z (OW b),e0.bs,e0.MB,λb _ _=>OW b,λb z=>absurd z (OW b),e0.uR,e0.Ot⟩,
  rfl,e0.bare,Un.kept hk,⟨_,x.toInCall.ns,λi y v h1 h2 h3=>?_⟩,λy c h=>⟨_,x.cell y c h⟩,e0.iK.fresh (XU _),λy c h=>?_,λp hp=>absurd (show p∈([]:Qqz) from hp) (by simp),e0.iK.kept hk,?_⟩
 ·exact name_of_addr x.apart (abO h1) (abO h2)
 ·have hy:scope.names.lookup y=some .cell\/scope.names.lookup y=some .free:=hy
  rcases hy with hy|hy
  ·exact Ei hy
  ·exact absurd rfl (S.P1 _ (abO hy))
 ·exact acI (x.above y c (abO h))
 ·have hi:i<vs.length:=by
   unfold start at h2
   by_cases hi:i<vs.length
   ·exact hi
   ·rw[abk (by simpa using hi)] at h2
    rw[List.getElem?_replicate] at h2
    split at h2<;>cases h2
  have ha:vs[i]?=some v:=by
   unfold start at h2
   rw[abT (by simpa using hi),aan] at h2
   cases e:vs[i]? with
   | none=>rw[e] at h2;cases h2
   | some a=>rw[e] at h2;cases h2;rfl
  obtain⟨u,hu,rv⟩:=r.get ha
  have hp:ps[i]?=some y:=by
   rw[<-S.pre,List.getElem?_take_of_lt (by omega)];exact h1
  have ndP:ps.Nodup:=by rw[<-S.pre];exact S.nd.sublist (acy _ _)
  refine⟨u,rv,?_⟩
  rcases S.par y (XY hp) with k|k
  ·exact .inl ⟨k,BG ndP hp hu k⟩
  ·obtain⟨c,e⟩:=Ei (n:=s.heap.objs.size+1) k
   refine .inr ⟨.inl k,c,e,?_⟩
   have q:=x.cell y c e
   rw[BH ndP hp hu (by show scope.names.lookup y≠_;rw[k];decide)] at q
   exact q
 ·exact e0.iK.fresh (acI (x.above y c (abO h)))
 ·unfold start
  show _=N.length
  rw[YN,O4,List.length_replicate]
  omega
theorem Oy{CX:Hl}{P:Program}{w:World}{K:Qqy}{mg:Qqx}{base:Heap}{k:Nat}{f:Addr}{name qual:Str}{params:Arguments}{body:List Stmt}{scope:Scope}{dV kV doc pm ju ct oc:Value}{an od:Option Addr}
  {JA:Array (Option Value)} {N ps:List Str} {sp:Sp} (lk:K.lookup f=some ⟨oc,od,.func (W.fnOf name qual params body scope dV kV doc pm an ju ct),JA⟩) (Cn:W.codeIn K ju qual=true) (S:gw N ps scope)
  (len:∀vs H Q E,sp vs H Q E->vs.length=ps.length)
  (wk:∀(A:Around)(outer:List Env)(s:Shared)(H:Hp)(vs:List V)(Q:VK)(E:XK),kD k (A.deeper (envOfC qual scope s.heap.objs.size f ju))->sp vs H Q E->
   ∃t,FL (wF CX P w K mg base N qual scope f ju A outer s H E) body t/\t {nx:=λ_ H'=>Q .jc H',rt:=Q} (start N vs) H) :
  ig P w K mg base CX (k+1) f (W.fnOf name qual params body scope dV kV doc pm an ju ct) ps sp:=by
 refine⟨len,λA outer s H args us vs Q E hr e0 hb r Mp=>?_⟩
 have hl:=len _ _ _ _ Mp
 have KX:K.In s.heap:=e0.mod.RZ.keeps λb o e=>(e0.bs b o e).1
 have lim:s.heap.NoLimit:=e0.mod.nolimit.keeps λb o e=>(e0.bs b o e).1
 have Uv:∀y∈ps.zip us,scope.names.lookup y.1=some .local\/(scope.names.lookup y.1=some .cell/\((cellsFrom (s.heap.objs.size+1) scope.names []).lookup y.1).isSome=true):=λ⟨n,v⟩ hy=>by
  rcases S.par n (List.of_mem_zip hy).1 with q|q
  ·exact .inl q
  ·exact .inr ⟨q,W.cellsFrom_some _ _ _ (.inl q)⟩
 refine codeAny_call_function hr.depth (KX _ _ lk) rfl S.co S.gen rfl (W.codeRec_of KX Cn) (hb _ _ _ _ ?_)
 refine wpAny_newFunctionEnv_cells S.kind Uv λenv he s1 x=>?_
 subst he
 refine⟨lim.keeps x.toInCall.keep,codeAny_func ?_⟩
 obtain⟨t,ht,hq⟩:=wk A outer s H vs Q E (hr.deeper _) Mp
 have I:Inv (wF CX P w K mg base N qual scope f ju A outer s H E) [] (start N vs) H s1:=Ip S hr.hd e0 hl r x
 refine abJ (ht [] s1 (start N vs) H _ I hq) (λfl s' hs=>?_) λe s' hs=>hs
 have fin:∀{Z':St} {H':Hp} {v:V} {u:Value},Inv (wF CX P w K mg base N qual scope f ju A outer s H E) [] Z' H' s'->RelV v u->Q v H'->CE outer P w H s Q u s':=
  λ{Z' H' v u} J rv q=>⟨v,H',J.os,J.bare,J.base,J.iK,rv,q⟩
 cases fl with
 | ret u=>
  obtain⟨v,Z',H',J,rv,q⟩:=hs
  exact fin J rv q
 | next=>
  obtain⟨Z',H',J,q⟩:=hs
  exact fin (v:=V.jc) (u:=Value.none) J rfl q
 | brk=>
  obtain⟨_,_,_,q⟩:=hs
  exact False.elim q
 | cont=>
  obtain⟨_,_,_,q⟩:=hs
  exact False.elim q
section
variable{X:Cx}{x:Str}{p pos:Pos}{e:Expr}{es:List Expr}{t:TA}{id T:String}{r:List V->Hp->VK->Prop}
def tCB(r:List V->Hp->VK->Prop)(t:TA):TE:=λZ H Q=>t Z H λvs H1=>r vs H1 Q
theorem gz(hc:uV X (.builtin id) r)(hg:Gl X x)(hm:X.mg x=none)(hv:bootBuiltins x=some (.builtin id))(ha:PA X (e::es) t)(hn:x≠"__name__":=by decide)(G1:(x ==("__debug__":Str))=false:=by decide)
  (he:starEach (e::es) X.env=(false,eval e X.env)::starEach es X.env:=by rfl) (nJ:(backTo pos (starEach es X.env)).any (·.1)=false:=by rfl):PE X (.Call (.Name x p) (e::es) [] pos) (tCB r t):=by
 intro c_ s Z H Q I h
 refine wpAny_Call_Name_kw (oZ I hg hm hv ?_ hn G1)
 exact PyProof.Rows.callWith_builtin1 (i3 (ha pos c_ s Z H _ I h) λus s1 ⟨vs,H1,I1,r1,q1⟩=>hc c_ s1 Z H1 vs us Q I1 r1 q1) he nJ
theorem wG(hc:uV X (.type T) r)(hg:Gl X x)(hm:X.mg x=none)(hv:bootBuiltins x=some (.type T))(ha:PA X (e::es) t)(hn:x≠"__name__":=by decide)(G1:(x ==("__debug__":Str))=false:=by decide)
  (he:starEach (e::es) X.env=(false,eval e X.env)::starEach es X.env:=by rfl) (nJ:(backTo pos (starEach es X.env)).any (·.1)=false:=by rfl):PE X (.Call (.Name x p) (e::es) [] pos) (tCB r t):=by
 intro c_ s Z H Q I h
 refine wpAny_Call_Name_kw (oZ I hg hm hv ?_ hn G1)
 exact abg (i3 (ha pos c_ s Z H _ I h) λus s1 ⟨vs,H1,I1,r1,q1⟩=>hc c_ s1 Z H1 vs us Q I1 r1 q1) he nJ
end
end L2
namespace HT
open PySem PyProof.Rows
section
open PySem.SeqAt
open PySem.AutoSeq1 (wpAny_loadPart')
open PySem.MeetsSeq PySem.MeetsSeq2 PySem.MeetsSeq3
end
section
variable{prog:Program}{w:World}{A:Around}{E:Qqq}{s:Shared}
noncomputable def Ej(n d:Nat):Option Int->Nat
 | none=>d
 | some v=>if v<0 then(v+(n:Int)).toNat else min v.toNat n
theorem Ek(n d:Nat):Ej n d none=d:=rfl
theorem Ho(n d k:Nat):Ej n d (some (k:Int))=min k n:=by
 show(if(k:Int)<0 then((k:Int)+(n:Int)).toNat else min (k:Int).toNat n)=min k n
 rw[aav (by omega),abP]
end
end HT
namespace L2
open PySem PySem.Spec PyProof.Rows
abbrev TO:=St->Hp->(Option Int->Hp->Prop)->Prop
def PO(X:Cx)(e:Option Expr)(t:TO):Prop:=
 ∀(c_:Qqz)(s:Shared)(Z:St)(H:Hp)(Q:Option Int->Hp->Prop),Inv X c_ Z H s->t Z H Q->
  wpAny (model X.prog X.w) X.A (evalPart e X.env) (λu s'=>∃o H',Inv X c_ Z H' s'/\IsPart u o/\Q o H') X.xe s
def MG:TO:=λ_ H Q=>Q none H
def Tp(t:TE):TO:=λZ H Q=>t Z H λx H1=>∃i,x=.int i/\Q (some i) H1
section
variable{X:Cx}{e:Expr}{te:TE}{lo hi:Option Expr}{tl th:TO}{pos p2:Pos}
theorem oy:PO X none MG:=by
 intro c_ s Z H Q I h
 rw[evalPart_none]
 exact aay ⟨none,H,I,.none,h⟩
theorem oz(h:PE X e te):PO X (some e) (Tp te):=by
 intro c_ s Z H Q I hw
 rw[evalPart_some]
 refine i3 (h c_ s Z H _ I hw) λu s1 iH=>?_
 obtain⟨x,H1,I1,r1,q1⟩:=iH
 obtain⟨i,rfl,q⟩:=q1
 obtain⟨t,rfl⟩:=r1
 exact⟨some i,H1,I1,.int i t,q⟩
def SlR(X:Cx)(r:V->Option Int->Option Int->Hp->VK->Prop):Prop:=
 ∀(c_:Qqz)(s:Shared)(Z:St)(H:Hp)(x:V)(v vl vu:Value)(lo hi:Option Int)(sl:Addr)(Q:VK),Inv X c_ Z H s->RelV x v->s.heap.IsSliceOf sl vl vu .none->IsPart vl lo->IsPart vu hi->r x lo hi H Q->
  ∃T id,typeLookup (.type T) "__getitem__"=pure (some (.builtin id))/\s.TypeIs v T/\wpAny (model X.prog X.w) X.A (getItem v (.ref sl)) (EP X c_ Z Q) X.xe s
def tSl(r:V->Option Int->Option Int->Hp->VK->Prop)(te:TE)(tl th:TO):TE:=λZ H Q=>te Z H λx H1=>tl Z H1 λl H2=>th Z H2 λu H3=>r x l u H3 Q
theorem mD{r:V->Option Int->Option Int->Hp->VK->Prop}(hr:SlR X r)(he:PE X e te)(hl:PO X lo tl)(hu:PO X hi th):PE X (.Subscript e (.Slice lo hi none p2) pos) (tSl r te tl th):=by
 intro c_ s Z H Q I h
 refine Subscript_ (i3 (he c_ s Z H _ I h) λv s1 iH=>?_)
 obtain⟨x,H1,I1,r1,q1⟩:=iH
 refine wpAny_Slice (i3 (hl c_ s1 Z H1 _ I1 q1) λvl s2 iH=>?_)
 obtain⟨l,H2,I2,pl,q2⟩:=iH
 refine i3 (hu c_ s2 Z H2 _ I2 q2) λvu s3 Jo=>?_
 obtain⟨u,H3,I3,pu,q3⟩:=Jo
 rw[evalPart_none]
 refine aay ?_
 have I4:Inv X c_ Z H3 {s3 with heap:=s3.heap.push {cls:=.type "slice",data:=.fields #[vl,vu,.none]}}:=I3.kept (t':=s3.toks) λb ob q=>aaB _ q
 obtain⟨T,id,hT,ht,hg⟩:=hr c_ {s3 with heap:=s3.heap.push {cls:=.type "slice",data:=.fields #[vl,vu,.none]}} Z H3 x v vl vu l u s3.heap.objs.size Q I4 r1 (Heap.IsSliceOf.new ..) pl pu q3
 show wpAny (model X.prog X.w) X.A (subscriptTail e (.Slice lo hi none p2) v (.ref s3.heap.objs.size)) (EP X c_ Z Q) X.xe {s3 with heap:=s3.heap.push {cls:=.type "slice",data:=.fields #[vl,vu,.none]}}
 exact tail_any (ops:=[.ref s3.heap.objs.size,v]) ht hT hg (by with_unfolding_all rfl)
noncomputable def uZ(xs:List V)(lo hi:Option Int):List V:=(xs.drop (HT.Ej xs.length 0 lo)).take (HT.Ej xs.length xs.length hi-HT.Ej xs.length 0 lo)
theorem Em(xs:List V)(lo hi:Option Int):(uZ xs lo hi).length<=xs.length:=by
 unfold uZ
 rw[aaO,List.length_drop]
 omega
end
noncomputable def JQ(n:Nat)(i:Int):Option Nat:=if 0<=i then(if i<n then some i.toNat else none) else if -(n:Int)<=i then some (i+n).toNat else none
noncomputable def Gf{Z:Type}(xs:List Z)(i:Int):Option Z:=(JQ xs.length i).bind λj=>xs[j]?
theorem Hq{n:Nat}{i:Int}{j:Nat}(h:JQ n i=some j):seqIndex? i n=some j/\j<n/\-(n:Int)<=i/\i<n:=by
 unfold JQ at h
 by_cases h0:0<=i
 ·rw[aax h0] at h
  by_cases h1:i<n
  ·rw[aax h1] at h
   have e:i.toNat=j:=aaE h
   exact⟨by rw[seqIndex_of h0 h1,e],by omega,by omega,h1⟩
  ·rw[aav h1] at h;cases h
 ·rw[aav h0] at h
  by_cases h1:-(n:Int)<=i
  ·rw[aax h1] at h
   have e:(i+n).toNat=j:=aaE h
   exact⟨by rw[seqIndex_neg (by omega) h1,e],by omega,h1,by omega⟩
  ·rw[aav h1] at h;cases h
theorem Cw{Z:Type}{xs:List Z}{i:Int}{v:Z}(h:Gf xs i=some v):∃j,seqIndex? i xs.length=some j/\xs[j]?=some v/\j<xs.length/\-(xs.length:Int)<=i/\i<xs.length:=by
 unfold Gf at h
 cases e:JQ xs.length i with
 | none=>rw[e] at h;cases h
 | some j=>
  rw[e] at h
  obtain⟨h1,h2,h3,h4⟩:=Hq e
  exact⟨j,h1,h,h2,h3,h4⟩
theorem MH{Z:Type}{xs:List Z}{j:Nat}{v:Z}(h:xs[j]?=some v):Gf xs (j:Int)=some v:=by
 have hj:j<xs.length:=(List.getElem?_eq_some_iff.mp h).1
 have e:JQ xs.length (j:Int)=some j:=by
  unfold JQ
  rw[aax (by omega),aax (by omega)];simp
 unfold Gf;rw[e];exact h
theorem En{Z:Type}(xs:List Z)(v:Z):Gf (xs++[v]) (-1)=some v:=by
 have hl:(xs++[v]).length=xs.length+1:=by simp
 have e:JQ (xs++[v]).length (-1)=some xs.length:=by
  unfold JQ
  rw[hl,aav (by decide),aax (by omega)]
  congr 1
  omega
 unfold Gf
 rw[e]
 show(xs++[v])[xs.length]?=some v
 simp
def Hr(b:Expr):Prop:=∀o i,subscripted b false o i=operate [o,i] (getItem o i)
def Wc(X:Cx)(r:R2):Prop:=
 ∀(value slice:Expr)(c_:Qqz)(s:Shared)(Z:St)(H:Hp)(x y:V)(v u:Value)(Q:VK),Inv X c_ Z H s->RelV x v->RelV y u->r x y H Q->
  subscripted slice false v u=operate [v,u] (getItem v u)->wpAny (model X.prog X.w) X.A (subscriptTail value slice v u) (EP X c_ Z Q) X.xe s
def Xz(X:Cx)(id:String)(r:V->List V->Hp->VK->Prop):Prop:=
 ∀(c_:Qqz)(s:Shared)(Z:St)(H:Hp)(x:V)(xs:List V)(v:Value)(us:List Value)(Q:VK),Inv X c_ Z H s->RelV x v->Vals xs us->r x xs H Q->
  wpAny (model X.prog X.w) X.A (call (.builtin id) (v::us)) (EP X c_ Z Q) X.xe s
section
variable{X:Cx}{a b:Expr}{ta tb:TE}{pos:Pos}
theorem jq{r:R2}(hr:Wc X r)(ha:PE X a ta)(hb:PE X b tb)(hs:Hr b):PE X (.Subscript a b pos) (Wb r ta tb):=by
 intro c_ s Z H Q I h
 exact Subscript_ (Tf ha hb I h λv u s2 x y H2 I2 rx ry q=>hr a b c_ s2 Z H2 x y v u Q I2 rx ry q (hs _ _))
noncomputable def Tq(K:Qqy):R2:=λx y H Q=>∃p xs i v,x=.ref p/\y=.int i/\gC K H p xs/\Gf xs i=some v/\Q v H
noncomputable def XA(K:Qqy):R2:=λx y H Q=>∃p xs i v,x=.ref p/\y=.int i/\ox K H p xs/\Gf xs i=some v/\Q v H
noncomputable def XC:R2:=λx y H Q=>∃z i c,x=.str z/\y=.int i/\z.length<=sizeLine/\Gf z.cps.toList i=some c/\Q (.str ⟨#[c]⟩) H
theorem kL:Wc X (Tq X.K):=by
 intro value slice c_ s Z H x y v u Q I rx ry h hs
 obtain⟨p,xs,i,z,rfl,rfl,hq,he,q⟩:=h
 cases rx
 obtain⟨t,rfl⟩:=ry
 obtain⟨hE,r,pl,hz⟩:=I.list hq
 obtain⟨j,h1,h2,h3,h4,h5⟩:=Cw he
 obtain⟨w,ew,Bw⟩:=r.get h2
 have hl:=r.length
 have hn:=uk
 have fin:EP X c_ Z Q w s:=⟨z,H,I,Bw,q⟩
 by_cases h0:0<=i
 ·have hj:i.toNat=j:=by
   rw[seqIndex_of h0 h5] at h1
   exact aaE h1
  exact item_listR pl.isList h0 (by omega) (by rw[hj];simpa using ew) fin hs
 ·have hj:(i+(hE.toArray.size:Int)).toNat=j:=by
   rw[seqIndex_neg (by omega) h4] at h1
   rw[aaz,<-hl]
   exact aaE h1
  exact subscriptTail_builtinR (x:=w) pl.isList.typeIs slot_list_getitem.lookup
   (wpAny_getItem_list_neg (Q:=λr s'=>r=w/\EP X c_ Z Q r s') pl.isList (by omega) (by rw[aaz]<;>omega) (by omega) (by rw[hj];simpa using ew) ⟨rfl,fin⟩) hs
theorem kT:Wc X (XA X.K):=by
 intro value slice c_ s Z H x y v u Q I rx ry h hs
 obtain⟨p,xs,i,z,rfl,rfl,hq,he,q⟩:=h
 cases rx
 obtain⟨t,rfl⟩:=ry
 obtain⟨hE,r,pl,hz⟩:=I.tuple hq
 obtain⟨j,h1,h2,h3,h4,h5⟩:=Cw he
 obtain⟨w,ew,Bw⟩:=r.get h2
 have hl:=r.length
 have hn:=uk
 have fin:EP X c_ Z Q w s:=⟨z,H,I,Bw,q⟩
 exact subscriptTail_builtinR (x:=w) pl.typeIs slot_tuple_getitem.lookup
  (getItem_tuple (j:=j) (Q:=λr s'=>r=w/\EP X c_ Z Q r s') pl (by omega) (by omega) (by rw[aaz,<-hl];exact h1) (by simpa using ew) ⟨rfl,fin⟩) hs
theorem Gg:Wc X XC:=by
 intro value slice c_ s Z H x y v u Q I rx ry h hs
 obtain⟨z,i,c,rfl,rfl,hz,he,q⟩:=h
 obtain⟨t,rfl⟩:=rx
 obtain⟨t',rfl⟩:=ry
 obtain⟨j,h1,h2,h3,h4,h5⟩:=Cw he
 have hl:z.cps.toList.length=z.length:=by simp[Str.length]
 rw[hl] at h1 h4 h5
 have hn:=uk
 exact tail_any (typeIs_str s z t) slot_str_getitem.lookup (getItem_str (c:=c) (by
  have e1:decide (i < -(2 ^ 63:Int))=false:=aap (by omega)
  have e2:decide (i>=2 ^ 63)=false:=aap (by omega)
  rw[e1,e2,Bool.or_false]) (by rw[h1];simpa using h2) ⟨.str ⟨#[c]⟩,H,I.tok _,⟨_,rfl⟩,q⟩) hs
theorem Gh(hE:List Value)(n j:Nat)(u:Value):Obj.mapSeq (·.setIfInBounds j u) {cls:=.type "list",data:=.seq hE.toArray n}={cls:=.type "list",data:=.seq (hE.set j u).toArray n}:=by
 simp[Obj.mapSeq]
theorem Inv.lst{c_:Qqz}{Z:St}{H:Hp}{s:Shared}{p:Addr}{xs:List V}(I:Inv X c_ Z H s)(h:H p=some (.lst xs)) :
  ∃(hE:List Value)(n:Nat),Vals xs hE/\s.heap.get? p=some {cls:=.type "list",data:=.seq hE.toArray n}/\xs.length<=sizeLine:=by
 obtain⟨z,hE,n,r,e⟩:=I.iK p _ h
 exact⟨hE,n,r,e,z⟩
theorem Inv.P2{c_:Qqz}{Z:St}{H:Hp}{s:Shared}{p:Addr}{xs ys:List V}{hE its':List Value}{n n':Nat}{f:Obj->Obj}(I:Inv X c_ Z H s)(h:H p=some (.lst xs))
  (ho:s.heap.get? p=some {cls:=.type "list",data:=.seq hE.toArray n}) (hf:f {cls:=.type "list",data:=.seq hE.toArray n}={cls:=.type "list",data:=.seq its'.toArray n'}) (r:Vals ys its') (hz:ys.length<=sizeLine) (t:Nat) :
  Inv X c_ Z (upd H p (.lst ys)) {s with heap:=s.heap.update p f,toks:=t}:=by
 have e:(s.heap.update p f).get? p=some {cls:=.type "list",data:=.seq its'.toArray n'}:=by
  rw[abo f ho (by rw[hf]<;>rfl),hf]
 refine I.write (x:=p) (e:=p) (by rw[h];trivial) (.inl rfl) (λb u hb q=>(ab6 _ _ (ab0 hb)).trans q) ⟨_,e⟩ ?_
 exact⟨hz,its',n',r,e⟩
noncomputable def Tr:V->V->V->Hp->(Hp->Prop)->Prop:=λo i v H Q=>∃p xs k j,o=.ref p/\i=.int k/\H p=some (.lst xs)/\JQ xs.length k=some j/\Q (upd H p (.lst (xs.set j v)))
theorem set_list:S_ X Tr:=by
 intro c_ s Z H o i v ov iv u Q I ro ri rv h
 obtain⟨p,xs,k,j,rfl,rfl,hp,hj,q⟩:=h
 cases ro
 obtain⟨t,rfl⟩:=ri
 obtain⟨hE,n,r,ho,hz⟩:=I.lst hp
 obtain⟨h1,h2,h3,h4⟩:=Hq hj
 have hl:=r.length
 have hn:=uk
 have I':Inv X c_ Z (upd H p (.lst (xs.set j v))) {s with heap:=s.heap.update p (Obj.mapSeq (·.setIfInBounds j u))}:=
  I.P2 hp ho (Gh hE n j u) (r.set rv j) (by rw[acq];exact hz) s.toks
 by_cases h0:0<=k
 ·have hk:k.toNat=j:=by
   rw[seqIndex_of h0 h4] at h1
   exact aaE h1
  exact W.ki_setAt ho h0 (by omega) (by rw[aaz,<-hl];exact h4) (by rw[hk];exact⟨_,I',q⟩)
 ·have hk:(k+(hE.toArray.size:Int)).toNat=j:=by
   rw[seqIndex_neg (by omega) h3] at h1
   rw[aaz,<-hl]
   exact aaE h1
  exact W.ki_setBack ho (by omega) (by rw[aaz,<-hl];exact h3) (by omega) (by rw[hk];exact⟨_,I',q⟩)
theorem Cy(lo hi:Option Int)(n:Nat):(sliceBounds lo hi none n).1=((HT.Ej n 0 lo:Nat):Int)/\(sliceBounds lo hi none n).2.1=((HT.Ej n n hi:Nat):Int)/\(sliceBounds lo hi none n).2.2=1:=by
 refine⟨?_,?_,rfl⟩
 ·cases lo with
  | none=>simp[sliceBounds,HT.Ej]
  | some i=>
   simp only [sliceBounds,HT.Ej,Option.getD_none,show(1:Int)>0 by decide,if_true]
   by_cases h:i<0
   ·simp only [h,if_true]<;>omega
   ·simp only [h,aca]<;>omega
 ·cases hi with
  | none=>simp[sliceBounds,HT.Ej]
  | some i=>
   simp only [sliceBounds,HT.Ej,Option.getD_none,show(1:Int)>0 by decide,if_true]
   by_cases h:i<0
   ·simp only [h,if_true]<;>omega
   ·simp only [h,aca]<;>omega
theorem A9(hE:List Value)(lo hi:Option Int):slicePick hE.toArray lo hi none=((hE.drop (HT.Ej hE.length 0 lo)).take (HT.Ej hE.length hE.length hi-HT.Ej hE.length 0 lo)).toArray:=by
 obtain⟨h1,h2,h3⟩:=Cy lo hi hE.toArray.size
 unfold slicePick
 rw[h1,h2,h3]
 simp only [sliceRange_one,pick_run,aaz]<;>rfl
noncomputable def XD(K:Qqy):V->Option Int->Option Int->Hp->VK->Prop:=λx lo hi H Q=>∃a xs,x=.ref a/\gC K H a xs/\∀p,H p=none->Q (.ref p) (upd H p (.lst (uZ xs lo hi)))
theorem oA:SlR X (XD X.K):=by
 intro c_ s Z H x v vl vu lo hi sl Q I rx hs pl pu h
 obtain⟨a,xs,rfl,hx,q⟩:=h
 cases rx
 obtain⟨hE,r,ht,hz⟩:=I.list hx
 have hlen:=r.length
 refine⟨"list",_,slot_list_getitem.lookup,ht.isList.typeIs,?_⟩
 refine wpAny_getItem_list_slice ht.isList hs pl pu .none (by simp) ?_ (by rw[aaz]<;>omega)
 rw[A9,<-hlen]
 refine⟨.ref s.heap.objs.size,_,I.laid (t':=s.toks) (o:=.lst (uZ xs lo hi)) (λb ob q=>aaB _ q) (XU _) ?_,rfl,q _ (I.iK.fresh (XU _))⟩
 exact⟨aam (Em xs lo hi) hz,_,0,(r.drop (HT.Ej xs.length 0 lo)).take (HT.Ej xs.length xs.length hi-HT.Ej xs.length 0 lo),aaN _ rfl⟩
noncomputable def l8:V->Bool
 | .jc=>true
 | .bl _=>true
 | .int _=>true
 | .str _=>true
 | _=>false
noncomputable def Iq:V->V->Bool
 | .jc,.jc=>true
 | .bl a,.bl b=>a ==b
 | .bl a,.int b=>(if a then 1 else 0) ==b
 | .int a,.bl b=>a ==(if b then 1 else 0)
 | .int a,.int b=>a ==b
 | .str a,.str b=>a ==b
 | _,_=>false
theorem JR{A:Around}{s:Shared}{y x:V}{u v:Value}(ry:RelV y u)(rx:RelV x v)(fy:l8 y=true)(fx:l8 x=true):SeqAt.EqAt A s u v (Iq y x):=by
 cases y with
 | jc=>
  cases ry
  cases x with
  | jc=>cases rx;exact SeqAt.EqAt.same _
  | bl b=>cases rx;exact SeqAt.EqAt.none_bool b
  | int b=>obtain⟨t,rfl⟩:=rx;exact SeqAt.EqAt.none_int b t
  | str b=>obtain⟨t,rfl⟩:=rx;exact SeqAt.EqAt.none_str b t
  | _=>exact absurd (show false=true from fx) aaw
 | bl a=>
  cases ry
  cases x with
  | jc=>cases rx;exact SeqAt.EqAt.bool_none a
  | bl b=>cases rx;exact SeqAt.EqAt.bool_bool a b
  | int b=>obtain⟨t,rfl⟩:=rx;exact SeqAt.EqAt.bool_int a b t
  | str b=>obtain⟨t,rfl⟩:=rx;exact SeqAt.EqAt.bool_str a b t
  | _=>exact absurd (show false=true from fx) aaw
 | int a=>
  obtain⟨t',rfl⟩:=ry
  cases x with
  | jc=>cases rx;exact SeqAt.EqAt.int_none a t'
  | bl b=>cases rx;exact SeqAt.EqAt.int_bool a t' b
  | int b=>obtain⟨t,rfl⟩:=rx;exact SeqAt.EqAt.int_int a t' b t
  | str b=>obtain⟨t,rfl⟩:=rx;exact SeqAt.EqAt.int_str a t' b t
  | _=>exact absurd (show false=true from fx) aaw
 | str a=>
  obtain⟨t',rfl⟩:=ry
  cases x with
  | jc=>cases rx;exact SeqAt.EqAt.str_none a t'
  | bl b=>cases rx;exact SeqAt.EqAt.str_bool a t' b
  | int b=>obtain⟨t,rfl⟩:=rx;exact SeqAt.EqAt.str_int a t' b t
  | str b=>obtain⟨t,rfl⟩:=rx;exact SeqAt.EqAt.str_str a t' b t
  | _=>exact absurd (show false=true from fx) aaw
 | _=>exact absurd (show false=true from fy) aaw
noncomputable def MJ(x:V)(u:Value):Bool:=match u with
 | .none=>Iq .jc x
 | .bool b=>Iq (.bl b) x
 | .int i _=>Iq (.int i) x
 | .str z _=>Iq (.str z) x
 | _=>false
theorem JS{x y:V}{u:Value}(r:RelV y u)(f:l8 y=true):MJ x u=Iq y x:=by
 cases y with
 | jc=>cases r;rfl
 | bl b=>cases r;rfl
 | int i=>obtain⟨t,rfl⟩:=r;rfl
 | str z=>obtain⟨t,rfl⟩:=r;rfl
 | _=>exact absurd (show false=true from f) aaw
theorem Cz{x:V}:∀{xs:List V} {us:List Value},Vals xs us->xs.all l8=true->us.any (MJ x)=xs.any λy=>Iq y x
 | _,_,.nil,_=>rfl
 | y::xs,u::us,.cons r t,f=>by
  rw[List.all_cons,abm] at f
  rw[acz,acz,JS r f.1,Cz t f.2]
theorem zy{A:Around}{s:Shared}{x:V}{v:Value}(rx:RelV x v)(fx:l8 x=true):∀{xs:List V} {us:List Value},Vals xs us->xs.all l8=true->∀u∈us,SeqAt.EqAt A s u v (MJ x u)
 | _,_,.nil,_=>λu hu=>by cases hu
 | y::xs,u::us,.cons r t,f=>λu' hu=>by
  rw[List.all_cons,abm] at f
  rcases aag.mp hu with rfl|hu
  ·rw[JS r f.1];exact JR r rx f.1 fx
  ·exact zy rx fx t f.2 u' hu
noncomputable def R3(x:V)(xs:List V):Bool:=xs.any λy=>Iq y x
noncomputable def rIn(K:Qqy)(neg:Bool):R2:=λx y H Q=>∃p xs,y=.ref p/\(gC K H p xs\/ox K H p xs)/\l8 x=true/\xs.all l8=true/\Q (.bl (if neg then !R3 x xs else R3 x xs)) H
theorem CA:xN X (compareOp .NotIn) (rIn X.K true):=by
 intro c_ s Z H x y v u Q I rx ry h
 obtain⟨p,xs,rfl,hq,fx,fs,q⟩:=h
 cases ry
 rcases hq with hq|hq
 ·obtain⟨hE,r,pl,hz⟩:=I.list hq
  refine SeqAt.notIn_listAt (MJ x) pl.isList (λw hw=>zy rx fx r fs w (by simpa using hw)) ⟨.bl _,H,I,rfl,?_⟩
  rw[show hE.toArray.any (MJ x)=hE.any (MJ x) by simp,Cz r fs]
  exact q
 ·obtain⟨hE,r,pl,hz⟩:=I.tuple hq
  refine SeqAt.notIn_tupleAt (MJ x) pl (λw hw=>zy rx fx r fs w (by simpa using hw)) ⟨.bl _,H,I,rfl,?_⟩
  rw[show hE.toArray.any (MJ x)=hE.any (MJ x) by simp,Cz r fs]
  exact q
theorem gq:uV X (.builtin "len") (λxs H Q=>∃p ys,xs=[.ref p]/\(gC X.K H p ys\/ox X.K H p ys)/\Q (.int ys.length) H):=by
 intro c_ s Z H xs us Q I r h
 obtain⟨p,ys,rfl,hq,q⟩:=h
 obtain⟨u,rfl,rx⟩:=vals1 r
 cases rx
 have hn:=uk
 rcases hq with hq|hq
 ·obtain⟨hE,r',pl,hz⟩:=I.list hq
  have hlen:=r'.length
  exact Calls.call_len_list pl.isList (by simp only [aaz]<;>omega) ⟨.int ys.length,H,I.tok _,⟨s.toks+1,by rw[aaz,hlen]⟩,q⟩
 ·obtain⟨hE,r',pl,hz⟩:=I.tuple hq
  have hlen:=r'.length
  exact len_tuple pl (by simp only [aaz]<;>omega) ⟨.int ys.length,H,I.tok _,⟨s.toks+1,by rw[aaz,hlen]⟩,q⟩
theorem u_:uV X (.builtin "len") (λxs H Q=>∃z,xs=[.str z]/\z.length<=sizeLine/\Q (.int z.length) H):=by
 intro c_ s Z H xs us Q I r h
 obtain⟨z,rfl,hz,q⟩:=h
 obtain⟨u,rfl,t,rfl⟩:=vals1 r
 have hn:=uk
 exact len_str (by omega) ⟨.int z.length,H,I.tok _,⟨_,rfl⟩,q⟩
theorem va:uV X (.type "list") (λxs H Q=>∃p ys,xs=[.ref p]/\(gC X.K H p ys\/ox X.K H p ys)/\∀l,H l=none->Q (.ref l) (upd H l (.lst ys))):=by
 intro c_ s Z H xs us Q I r h
 obtain⟨p,ys,rfl,hq,q⟩:=h
 obtain⟨u,rfl,rx⟩:=vals1 r
 cases rx
 have fin:∀(hE:List Value),Vals ys hE->ys.length<=sizeLine->∀(h':Heap)(c':Nat),(∀b o',s.heap.get? b=some o'->h'.get? b=some o')->
   h'.get? s.heap.objs.size=some {cls:=.type "list",dict:=none,data:=.seq hE.toArray c',slots:=#[]}->EP X c_ Z Q (.ref s.heap.objs.size) {s with heap:=h'}:=λhE r' hz h' c' kp e=>
  ⟨.ref s.heap.objs.size,_,I.laid (t':=s.toks) kp (XU _) (show i0 X.prog X.w _ h' _ (.lst ys) from ⟨hz,hE,c',r',e⟩),rfl,q _ (I.iK.fresh (XU _))⟩
 rcases hq with hq|hq
 ·obtain⟨hE,r',pl,hz⟩:=I.list hq
  have hlen:=r'.length
  obtain⟨o,ho,hc,n,hd⟩:=pl.isList
  exact call_list_seq p (.inl rfl) ho hc hd (λh' c' kp e=>fin hE r' hz h' c' kp e) (by simp only [aaz]<;>omega)
 ·obtain⟨hE,r',pl,hz⟩:=I.tuple hq
  have hlen:=r'.length
  obtain⟨o,ho,hc,n,hd⟩:=pl
  exact call_list_seq p (.inr rfl) ho hc hd (λh' c' kp e=>fin hE r' hz h' c' kp e) (by simp only [aaz]<;>omega)
def XE(K:Qqy)(T:String)(x:V)(H:Hp):Prop:=match x with
 | .str _=>T="str"
 | .int _=>T="int"
 | .ref p=>(T="list"/\∃xs,gC K H p xs)\/(T="tuple"/\∃o,K.lookup p=some o/\o.cls=.type "tuple"/\o.dict=none)\/
  (T="dict"/\((∃kvs,H p=some (.dK kvs))\/∃kvs,H p=some (.dT kvs)))\/(T="set"/\∃S n,H p=some (.set S n))
 | _=>False
theorem JT{c_:Qqz}{Z:St}{H:Hp}{s:Shared}{T:String}{x:V}{v:Value}(I:Inv X c_ Z H s)(r:RelV x v)(ty:XE X.K T x H) :
  s.TypeIs v T/\∀a,v=.ref a->∃ob,s.heap.get? a=some ob/\ob.dict=none:=by
 cases x with
 | str z=>
  obtain⟨t,rfl⟩:=r
  cases (show T="str" from ty)
  exact⟨typeIs_str s z t,λ_ e=>nomatch e⟩
 | int i=>
  obtain⟨t,rfl⟩:=r
  cases (show T="int" from ty)
  exact⟨typeIs_int s i t,λ_ e=>nomatch e⟩
 | ref p=>
  cases r
  rcases ty with⟨rfl,xs,hq⟩|⟨rfl,o,hk,hc,hd⟩|⟨rfl,hk⟩|⟨rfl,S,n,hk⟩
  ·obtain⟨hE,_,pl,_⟩:=I.list hq
   refine⟨pl.isList.typeIs,λa e=>?_⟩
   cases e
   obtain⟨o,n,e,c,hd,_⟩:=pl
   exact⟨o,e,hd⟩
  ·refine⟨⟨o,I.xM p o hk,hc⟩,λa e=>?_⟩
   cases e
   exact⟨o,I.xM _ o hk,hd⟩
  ·have z:∃o,s.heap.get? p=some o/\o.ExactDict:=by
    rcases hk with⟨kvs,hk⟩|⟨kvs,hk⟩
    ·obtain⟨_,_,_,_,o,_,_,e,ex,_⟩:=I.iK p _ hk
     exact⟨o,e,ex⟩
    ·obtain⟨_,_,_,_,o,_,_,e,ex,_⟩:=I.iK p _ hk
     exact⟨o,e,ex⟩
   obtain⟨o,e,ex⟩:=z
   refine⟨⟨o,e,ex.1⟩,λa e2=>?_⟩
   cases e2
   exact⟨o,e,ex.2.1⟩
  ·obtain⟨o,_,_,_,e,ex,_⟩:=I.iK p _ hk
   refine⟨⟨o,e,ex.1⟩,λa e2=>?_⟩
   cases e2
   exact⟨o,e,ex.2.1⟩
 | _=>exact False.elim ty
def XF(K:Qqy)(T:String)(r:V->List V->Hp->VK->Prop)(to:TE):TE:=λZ H Q=>to Z H λx H1=>XE K T x H1/\r x [] H1 Q
def tBM(K:Qqy)(T:String)(r:V->List V->Hp->VK->Prop)(to:TE)(t:TA):TE:=λZ H Q=>to Z H λx H1=>XE K T x H1/\t Z H1 λxs H2=>r x xs H2 Q
variable{o e:Expr}{es:List Expr}{to:TE}{t:TA}{name:Str}{apos kX:Pos}{T id:String}{r:V->List V->Hp->VK->Prop}
theorem P4(pa:PlainAttrs T)(slot:Slot T name id)(Uw:typeOf (.builtin id)=pure (.type "method_descriptor"))(hm:Xz X id r)(ho:PE X o to)
  (LK:attributeBase o name X.env (eval o X.env)=eval o X.env:=by rfl) (LL:(apos.endLine ==kX.line)=true:=by rfl):PE X (.Call (.Attribute o name apos) [] [] kX) (XF X.K T r to):=by
 intro c_ s Z H Q I h
 refine wpAny_Call_method0_late LK LL (i3 (ho c_ s Z H _ I h) λv s1 iH=>?_)
 obtain⟨x,H1,I1,r1,ty,q1⟩:=iH
 obtain⟨h1,h2⟩:=JT I1 r1 ty
 exact⟨T,id,pa,slot,Uw,h1,h2,abA rfl (PySem.evalArgs_none (hm c_ s1 Z H1 x [] v [] Q I1 r1 .nil q1))⟩
theorem pB(pa:PlainAttrs T)(slot:Slot T name id)(Uw:typeOf (.builtin id)=pure (.type "method_descriptor"))(hm:Xz X id r)(ho:PE X o to)(ha:PA X (e::es) t)
  (LK:attributeBase o name X.env (eval o X.env)=eval o X.env:=by rfl)
  (Yq:((backTo kX (starEach (e::es) X.env)).all (λx=>!x.1)&&(backToKw kX (keywordEach [] X.env)).all (λx=>x.1.isSome)
   &&decide ((e::es).length+([]:List Keyword).length+(if([]:List Keyword).isEmpty then 0 else 1)<30))=true:=by rfl)
  (LL:(apos.endLine ==kX.line)=true:=by rfl) (hs:starEach (e::es) X.env=(false,eval e X.env)::starEach es X.env:=by rfl) (Rh:(backTo kX (starEach es X.env)).any (·.1)=false:=by rfl) :
  PE X (.Call (.Attribute o name apos) (e::es) [] kX) (tBM X.K T r to t):=by
 intro c_ s Z H Q I h
 refine wpAny_Call_method_late LK Yq LL rfl (i3 (ho c_ s Z H _ I h) λv s1 iH=>?_)
 obtain⟨x,H1,I1,r1,ty,q1⟩:=iH
 obtain⟨h1,h2⟩:=JT I1 r1 ty
 refine⟨T,id,pa,slot,Uw,h1,h2,?_⟩
 have hA:=ha kX c_ s1 Z H1 _ I1 q1
 rw[hs] at hA ⊢
 refine abA (by show(false||(backTo kX (starEach es X.env)).any (·.1))=false;rw[Rh]<;>rfl) (abK ?_)
 exact i3 hA λus s2 ⟨vs,H2,I2,r2,q2⟩=>hm c_ s2 Z H2 x vs v us Q I2 r1 r2 q2
end
def XG(X:Cx)(id:String)(r:V->List V->Hp->VK->Prop):Prop:=
 ∀(c_:Qqz)(s:Shared)(Z:St)(H:Hp)(x:V)(xs:List V)(v:Value)(us:List Value)(Q:VK),Inv X c_ Z H s->RelV x v->Vals xs us->r x xs H Q->
  wpAny (model X.prog X.w) X.A (call (.builtin id) (v::us)) (EP X c_ Z Q) X.xe s
theorem Vals.one:∀{x:V} {us:List Value},Vals [x] us->∃u,us=[u]/\RelV x u
 | _,_,.cons r .nil=>⟨_,rfl,r⟩
theorem Vals.zero:∀{us:List Value},Vals [] us->us=[]
 | _,.nil=>rfl
theorem Vals.dropLast{xs:List V}{us:List Value}(h:Vals xs us):Vals xs.dropLast us.dropLast:=by
 induction h with
 | nil=>exact .nil
 | cons r t ih=>
  cases t with
  | nil=>exact .nil
  | cons q t'=>exact .cons r ih
theorem Vals.rep{xs:List V}{us:List Value}(h:Vals xs us):∀k:Nat,Vals (List.replicate k xs).flatten (List.replicate k us).flatten
 | 0=>.nil
 | k+1=>by
  rw[abp,abp,acd,acd]
  exact Vals.append h (Vals.rep h k)
theorem Gi{Z:Type}(l:List Z):l.eraseIdx (l.length-1)=l.dropLast:=by
 induction l with
 | nil=>rfl
 | cons a r ih=>
  cases r with
  | nil=>rfl
  | cons b r=>
   have e:(a::b::r).length-1=((b::r).length-1)+1:=by
    have h1:(a::b::r).length=r.length+2:=rfl
    have h2:(b::r).length=r.length+1:=rfl
    omega
   rw[e,List.eraseIdx_cons_succ,ih]
   all_goals rfl
theorem foldl_rep(hE:List Value):∀(k:Nat)(acc:List Value),
  List.foldl (λx1 x2=>x1++x2) acc.toArray (List.replicate k hE.toArray)=(acc++(List.replicate k hE).flatten).toArray
 | 0,acc=>by simp
 | k+1,acc=>by
  have e:acc.toArray++hE.toArray=(acc++hE).toArray:=by simp
  have e2:(acc++hE)++(List.replicate k hE).flatten=acc++(List.replicate (k+1) hE).flatten:=by
   rw[abp,acd,aa4]
  rw[<-e2,<-foldl_rep hE k (acc++hE),<-e,abp,List.foldl_cons]
section
variable{X:Cx}{c_:Qqz}{Z:St}{H:Hp}{s:Shared}{l b:Addr}{xs ys zs:List V}
theorem Inv.P5{hE its':List Value}{n:Nat}{f:Array Value->Array Value}{t':Nat}(I:Inv X c_ Z H s)(hH:H l=some (.lst xs))
  (e:s.heap.get? l=some {cls:=.type "list",data:=.seq hE.toArray n}) (hf:f hE.toArray=its'.toArray) (hv:Vals ys its') (hz:ys.length<=sizeLine) :
  Inv X c_ Z (upd H l (.lst ys)) {s with heap:=s.heap.update l (Obj.mapSeq f),toks:=t'}:=by
 have q:=PySem.IsL.update e f
 rw[hf] at q
 refine I.write (x:=l) (e:=l) (by rw[hH];exact trivial) (.inl rfl) (λb' u hb hu=>(ab6 s.heap (Obj.mapSeq f) (ab0 hb)).trans hu) ⟨_,q⟩ ?_
 exact⟨hz,its',_,hv,q⟩
theorem Inv.MK{hE:List Value}{t':Nat}(I:Inv X c_ Z H s)(hv:Vals ys hE)(hz:ys.length<=sizeLine) :
  Inv X c_ Z (upd H s.heap.objs.size (.lst ys)) {s with heap:=s.heap.push {cls:=.type "list",data:=.seq hE.toArray},toks:=t'}:=
 I.laid (λ_ _ q=>aaB _ q) (XU _) ⟨hz,hE,0,hv,aaN _ rfl⟩
theorem Inv.fresh(I:Inv X c_ Z H s):H s.heap.objs.size=none:=I.iK.fresh (XU _)
theorem Inv.Gj(I:Inv X c_ Z H s)(hH:H l=some (.lst xs)):xs.length<=sizeLine/\∃(hE:List Value)(n:Nat),Vals xs hE/\xs.length=hE.length/\s.heap.get? l=some {cls:=.type "list",data:=.seq hE.toArray n}:=by
 obtain⟨z,hE,n,r,e⟩:=I.iK l _ hH
 exact⟨z,hE,n,r,r.length,e⟩
theorem Eo{n:Nat}(h:n<=sizeLine):Builtin.List.listTooLong n=false:=by
 unfold Builtin.List.listTooLong
 exact aap (by omega)
end
section
variable{X:Cx}
noncomputable def ML:V->List V->Hp->VK->Prop:=λx vs H Q=>∃l xs y,x=.ref l/\vs=[y]/\H l=some (.lst xs)/\xs.length<sizeLine/\Q .jc (upd H l (.lst (xs++[y])))
theorem ko:XG X "list.append" ML:=by
 intro c_ s Z H x vs v us Q I rx rv h
 obtain⟨l,xs,y,rfl,rfl,hH,hz,q⟩:=h
 cases rx
 obtain⟨u,rfl,ru⟩:=rv.one
 obtain⟨z,hE,n,r,hl,e⟩:=I.Gj hH
 refine call_meets F.slot_list_append ⟨_,e,rfl⟩ F.entry_list_append (F.args_list_append_2 _ _) (PySem.list_append l hE.toArray n u (by rw[aaz];omega)) ⟨e,?_⟩
 refine⟨.jc,_,I.P5 (its':=hE++[u]) hH e (by simp) (r.append (.cons ru .nil)) ?_,rfl,q⟩
 rw[YN,List.length_singleton]
 omega
noncomputable def MM:V->List V->Hp->VK->Prop:=λx vs H Q=>∃l b xs zs,x=.ref l/\vs=[.ref b]/\H l=some (.lst xs)/\H b=some (.lst zs)/\xs.length+zs.length<=sizeLine/\Q .jc (upd H l (.lst (xs++zs)))
theorem BI:XG X "list.extend" MM:=by
 intro c_ s Z H x vs v us Q I rx rv h
 obtain⟨l,b,xs,zs,rfl,rfl,hH,hB,hz,q⟩:=h
 cases rx
 obtain⟨u,rfl,ru⟩:=rv.one
 cases ru
 obtain⟨z,hE,n,r,hl,e⟩:=I.Gj hH
 obtain⟨z2,l4,n2,r2,FQ,e2⟩:=I.Gj hB
 have hsz:hE.toArray.size+l4.toArray.size<=sizeLine:=by rw[aaz,aaz];omega
 have LM:¬(!hE.toArray.isEmpty&&Builtin.List.listTooLong (hE.toArray.size+l4.toArray.size))=true:=by
  rw[Eo hsz,Bool.and_false]
  exact aaw
 refine call_meets F.slot_list_extend ⟨_,e,rfl⟩ F.entry_list_extend (F.args_list_extend_2 _ _)
  (AutoSeq1.list_extend_list_list_0 l hE.toArray n b l4.toArray n2 LM (by rw[aaz];omega) (by omega)) ⟨e,e2,?_⟩
 refine⟨.jc,_,I.P5 (its':=hE++l4) hH e (by simp) (r.append r2) ?_,rfl,q⟩
 rw[YN]
 omega
noncomputable def XH:V->List V->Hp->VK->Prop:=λx vs H Q=>∃l xs y,x=.ref l/\vs=[]/\H l=some (.lst xs)/\xs[xs.length-1]?=some y/\Q y (upd H l (.lst xs.dropLast))
theorem P6:XG X "list.pop" XH:=by
 intro c_ s Z H x vs v us Q I rx rv h
 obtain⟨l,xs,y,rfl,rfl,hH,hy,q⟩:=h
 cases rx
 have hus:=rv.zero
 subst hus
 obtain⟨z,hE,n,r,hl,e⟩:=I.Gj hH
 obtain⟨u,hu,ru⟩:=r.get hy
 have Wo:hE.toArray[hE.toArray.size-1]?=some u:=by
  show hE.toArray[hE.length-1]?=some u
  rw[<-abq,<-hl]
  exact hu
 refine call_meets F.slot_list_pop ⟨_,e,rfl⟩ F.entry_list_pop (F.args_list_pop_1 _) (MeetsSeq.list_pop_last l hE.toArray n u Wo (by rw[aaz];omega)) ⟨e,?_⟩
 refine⟨y,_,I.P5 (its':=hE.dropLast) hH e ?_ r.dropLast ?_,ru,q⟩
 ·show hE.toArray.eraseIdxIfInBounds (hE.toArray.size-1)=hE.dropLast.toArray
  rw[aaz,List.eraseIdxIfInBounds_toArray,Gi]
 ·rw[List.length_dropLast]
  omega
noncomputable def XI:R2:=λx y H Q=>∃l b xs zs,x=.ref l/\y=.ref b/\H l=some (.lst xs)/\H b=some (.lst zs)/\xs.length+zs.length<=sizeLine/\∀p,H p=none->Q (.ref p) (upd H p (.lst (xs++zs)))
theorem mO:xN X (binaryOp .Add) XI:=by
 intro c_ s Z H x y v u Q I rx ry h
 obtain⟨l,b,xs,zs,rfl,rfl,hH,hB,hz,q⟩:=h
 cases rx
 cases ry
 obtain⟨z,hE,n,r,hl,e⟩:=I.Gj hH
 obtain⟨z2,l4,n2,r2,FQ,e2⟩:=I.Gj hB
 refine PySem.P.add_list e e2 ?_ (by rw[aaz,aaz];omega)
 have ea:hE.toArray++l4.toArray=(hE++l4).toArray:=by simp
 rw[ea]
 exact⟨.ref _,_,I.MK (t':=s.toks) (r.append r2) (by rw[YN];omega),rfl,q _ I.fresh⟩
noncomputable def XJ:R2:=λx y H Q=>∃l k xs,x=.ref l/\y=.int k/\H l=some (.lst xs)/\-(2 ^ 63)<=k/\k<2 ^ 63/\xs.length*k.toNat<=sizeLine/\
 ∀p,H p=none->Q (.ref p) (upd H p (.lst (List.replicate k.toNat xs).flatten))
theorem len_rep{Z:Type}(xs:List Z)(k:Nat):(List.replicate k xs).flatten.length=k*xs.length:=by
 induction k with
 | zero=>simp
 | succ k ih=>rw[abp,acd,YN,ih,Nat.succ_mul,Nat.add_comm]
theorem Gk:xN X (binaryOp .Mult) XJ:=by
 intro c_ s Z H x y v u Q I rx ry h
 obtain⟨l,k,xs,rfl,rfl,hH,h1,h2,hz,q⟩:=h
 cases rx
 obtain⟨t,rfl⟩:=ry
 obtain⟨z,hE,n,r,hl,e⟩:=I.Gj hH
 have hlen:hE.toArray.size*k.toNat<=sizeLine:=by rw[aaz,<-hl];exact hz
 have Yr:¬hE.toArray.size*k.toNat>(2 ^ 63-1)/8:=by
  have:(sizeLine:Nat)<=(2 ^ 63-1)/8:=by decide
  omega
 have Ys:¬(!Builtin.List.listFitsIndex k)=true:=by
  rw[fitsIndex_both h1 h2]
  exact aaw
 have LM:¬Builtin.List.listTooLong (hE.toArray.size*k.toNat)=true:=by
  rw[Eo hlen]
  exact aaw
 have Yt:List.foldl (λx1 x2=>x1++x2) #[] (List.replicate (if hE.toArray.isEmpty=true then 0 else k.toNat) hE.toArray)=(List.replicate k.toNat hE).flatten.toArray:=by
  have f0:∀m:Nat,List.foldl (λx1 x2=>x1++x2) #[] (List.replicate m hE.toArray)=(List.replicate m hE).flatten.toArray:=λm=>by
   have:=foldl_rep hE m []
   rw[List.nil_append] at this
   exact this
  rw[f0]
  cases hE with
  | nil=>simp
  | cons a r'=>rw[aav (by simp)]
 refine wpAny_binaryOp_repeat_ref (T:="list") (U:="int") (by decide) ⟨_,e,rfl⟩ (λs'=>typeIs_int s' k t) noFill_list_mul F.fills_int_mul F.slot_int_rmul repeat_list F.slot_int_index.lookup
  (call_meets F.slot_int_rmul (typeIs_int s k t) F.entry_int_rmul (F.args_int_rmul_2 _ _) (int___rmul___int_list k t l hE.toArray n)
   ⟨e,rfl,⟨_,e,rfl⟩,call_meets F.slot_list_mul ⟨_,e,rfl⟩ F.entry_list_mul (F.args_list_mul_2 _ _) (AutoListH.list___mul___list_int_3 l hE.toArray n k t Ys Yr LM) ⟨e,?_⟩⟩)
 rw[Yt]
 exact⟨.ref _,_,I.MK (t':=s.toks) (r.rep k.toNat) (by rw[len_rep,Nat.mul_comm];exact hz),rfl,q _ I.fresh⟩
end
section
variable{prog:Program}{w:World}{A:Around}{E:Qqq}{s:Shared}
end
section
variable{X:Cx}
end
section
variable{Z:Type}[DecidableEq Z]
def iN(kvs:List (Z×V))(k:Z):Option V:=(kvs.find? λkv=>decide (kv.1=k)).map (·.2)
def putK(kvs:List (Z×V))(k:Z)(v:V):List (Z×V):=
 if(kvs.any λkv=>decide (kv.1=k))=true then kvs.map (λkv=>if kv.1=k then(kv.1,v) else kv) else kvs++[(k,v)]
def jV(kvs:List (Z×V))(k:Z):List (Z×V):=kvs.filter λkv=>decide (kv.1≠k)
theorem ji{p:Z×V}{r:List (Z×V)}{k:Z}(e:p.1=k):iN (p::r) k=some p.2:=by simp[iN,acr,e]
theorem ja{p:Z×V}{r:List (Z×V)}{k:Z}(e:¬p.1=k):iN (p::r) k=iN r k:=by simp[iN,acr,e]
theorem rG(k:Z):∀kvs:List (Z×V),(kvs.any λkv=>decide (kv.1=k))=(iN kvs k).isSome
 | []=>rfl
 | p::r=>by
  rw[acz]
  by_cases e:p.1=k
  ·simp only [ji e,XZ e,Bool.true_or,Option.isSome_some]
  ·rw[ja e,aap e,Bool.false_or];exact rG k r
theorem Ep(k j:Z)(y:V):∀kvs:List (Z×V),iN (kvs.map λkv=>if kv.1=k then(kv.1,y) else kv) j=(iN kvs j).map λx=>if j=k then y else x
 | []=>rfl
 | p::r=>by
  have ih:=Ep k j y r
  rw[aaK]
  by_cases h:p.1=k
  ·rw[aax h]
   by_cases e:p.1=j
   ·rw[ji (p:=(p.1,y)) e,ji e,ab4,aax (e.symm.trans h)]
   ·rw[ja (p:=(p.1,y)) e,ja e,ih]
  ·rw[aav h]
   by_cases e:p.1=j
   ·rw[ji (p:=p) e,ji e,ab4,aav (λz=>h (e.trans z))]
   ·rw[ja (p:=p) e,ja e,ih]
theorem BJ(k j:Z)(y:V):∀kvs:List (Z×V),iN kvs k=none->iN (kvs++[(k,y)]) j=if j=k then some y else iN kvs j
 | [],_=>by
  by_cases e:k=j
  ·rw[aax e.symm];exact ji (p:=(k,y)) e
  ·rw[aav (λz=>e z.symm)];exact ja (p:=(k,y)) e
 | p::r,hn=>by
  rw[List.cons_append]
  have hk:¬p.1=k:=λz=>by rw[ji z] at hn;cases hn
  rw[ja hk] at hn
  have ih:=BJ k j y r hn
  by_cases e:p.1=j
  ·rw[ji e,ji e,aav (λz=>hk (e.trans z))]
  ·rw[ja e,ja e,ih]
theorem ke(kvs:List (Z×V))(k j:Z)(y:V):iN (putK kvs k y) j=if j=k then some y else iN kvs j:=by
 unfold putK
 by_cases a:(kvs.any λkv=>decide (kv.1=k))=true
 ·rw[aax a,Ep]
  rw[rG] at a
  by_cases e:j=k
  ·obtain⟨x,hx⟩:=Option.isSome_iff_exists.mp a
   rw[aax e,e,hx,ab4,aax rfl]
  ·rw[aav e]
   cases iN kvs j with
   | none=>rfl
   | some x=>rw[ab4,aav e]
 ·rw[aav a]
  refine BJ k j y kvs ?_
  rw[rG] at a
  cases q:iN kvs k with
  | none=>rfl
  | some x=>rw[q] at a;exact(a rfl).elim
theorem jr(kvs:List (Z×V))(k:Z)(v:V):(putK kvs k v).length<=kvs.length+1:=by
 unfold putK
 split
 ·rw[O4];omega
 ·rw[YN,aah,List.length_nil];omega
theorem Er{kvs:List (Z×V)}{k:Z}(v:V)(h:iN kvs k=none):putK kvs k v=kvs++[(k,v)]:=by
 unfold putK
 rw[rG,h]
 exact aav (by decide)
theorem pw.pC{o:Option V}{u:Option Value}(r:pw o u):o.isSome=u.isSome:=by
 cases o with
 | none=>cases u with
  | none=>rfl
  | some _=>exact(show False from r).elim
 | some _=>cases u with
  | none=>exact(show False from r).elim
  | some _=>rfl
theorem pw.getD{o:Option V}{u:Option Value}{d:V}{d':Value}(r:pw o u)(rd:RelV d d'):RelV (o.getD d) (u.getD d'):=by
 cases o with
 | none=>cases u with
  | none=>exact rd
  | some _=>exact(show False from r).elim
 | some _=>cases u with
  | none=>exact(show False from r).elim
  | some _=>exact r
theorem KV.val{kvs:List (Z×V)}{vs:List (Z×Value)}(r:KV kvs vs)(k:Z):pw (iN kvs k) (valueAt vs k):=by
 unfold KV at r
 induction r with
 | nil=>exact True.intro
 | @cons p q ps qs h t ih=>
  obtain⟨h1,h2⟩:=h
  by_cases e:p.1=k
  ·have e':q.1=k:=h1.symm.trans e
   have b:valueAt (q::qs) k=some q.2:=by simp[valueAt,acr,e']
   rw[ji e,b];exact h2
  ·have e':¬q.1=k:=λz=>e (h1.trans z)
   have b:valueAt (q::qs) k=valueAt qs k:=by simp[valueAt,acr,e']
   rw[ja e,b];exact ih
theorem KV.any{kvs:List (Z×V)}{vs:List (Z×Value)}(r:KV kvs vs)(k:Z):(kvs.any λkv=>decide (kv.1=k))=vs.any λkv=>decide (kv.1=k):=by
 unfold KV at r
 induction r with
 | nil=>rfl
 | cons h t ih=>rw[acz,acz,ih,h.1]
theorem KV.P7{kvs:List (Z×V)}{vs:List (Z×Value)}(r:KV kvs vs)(k:Z){y:V}{u:Value}(ry:RelV y u) :
  KV (kvs.map λkv=>if kv.1=k then(kv.1,y) else kv) (vs.map λkv=>if kv.1=k then(kv.1,u) else kv):=by
 unfold KV at r ⊢
 induction r with
 | nil=>exact .nil
 | @cons p q ps qs h t ih=>
  rw[aaK,aaK]
  refine .cons ?_ ih
  obtain⟨h1,h2⟩:=h
  by_cases e:p.1=k
  ·rw[aax e,aax (h1.symm.trans e)];exact⟨h1,ry⟩
  ·rw[aav e,aav (λz=>e (h1.trans z))];exact⟨h1,h2⟩
theorem KV.put{kvs:List (Z×V)}{vs:List (Z×Value)}(r:KV kvs vs)(k:Z){y:V}{u:Value}(ry:RelV y u):KV (putK kvs k y) (stored vs k u):=by
 unfold putK stored
 rw[r.any k]
 by_cases e:(vs.any λkv=>decide (kv.1=k))=true
 ·rw[aax e,aax e];exact r.P7 k ry
 ·rw[aav e,aav e];exact Paired.snoc r ⟨rfl,ry⟩
theorem KV.drop{kvs:List (Z×V)}{vs:List (Z×Value)}(r:KV kvs vs)(k:Z):KV (jV kvs k) (without vs k):=by
 unfold KV at r ⊢
 unfold jV without
 induction r with
 | nil=>exact .nil
 | @cons p q ps qs h t ih=>
  obtain⟨h1,h2⟩:=h
  rw[ab8,ab8]
  by_cases e:p.1=k
  ·have a:¬decide (p.1≠k)=true:=by simp[e]
   have b:¬decide (q.1≠k)=true:=by simp[h1.symm.trans e]
   rw[aav a,aav b];exact ih
  ·have e':¬q.1=k:=λz=>e (h1.trans z)
   have a:decide (p.1≠k)=true:=by simp[e]
   have b:decide (q.1≠k)=true:=by simp[e']
   rw[aax a,aax b];exact .cons ⟨h1,h2⟩ ih
theorem KV.length{kvs:List (Z×V)}{vs:List (Z×Value)}(r:KV kvs vs):kvs.length=vs.length:=aau r
theorem Es(kvs:List (Z×V))(k:Z):(jV kvs k).length<=kvs.length:=aaX _ _
end
theorem zz{P:Program}{w:World}{k:Key}{u:Value}(r:RelV (kV k) u):(jd P w).is k u=true:=by
 cases k with
 | inl i=>obtain⟨t,e⟩:=(show ∃t,u=Value.int i t from r);subst e;exact D5 P w i t
 | inr x=>obtain⟨t,e⟩:=(show ∃t,u=Value.str x t from r);subst e;exact D6 P w x t
theorem BK{P:Program}{w:World}:∀{ks:List Key} {us:List Value},Vals (ks.map kV) us->ItemsAre (jd P w) ks us
 | [],_,r=>by rw[List.map_nil] at r;cases r;exact .nil
 | k::ks,_,r=>by
  rw[aaK] at r
  cases r with
  | cons h t=>exact .cons (zz h) (BK t)
abbrev KT(H:Hp):List (List Key×V)->List (List Key×Addr×Value)->Prop:=Paired λp q=>p.1=q.1/\H q.2.1=some (.tup (p.1.map kV))/\RelV p.2 q.2.2
theorem KT.val{H:Hp}{kvs:List (List Key×V)}{xs:List (List Key×Addr×Value)}(r:KT H kvs xs)(k:List Key):pw (iN kvs k) ((atKey xs k).map (·.2)):=by
 induction r with
 | nil=>exact True.intro
 | @cons p q ps qs h t ih=>
  obtain⟨h1,_,h2⟩:=h
  by_cases e:p.1=k
  ·have e':q.1=k:=h1.symm.trans e
   have b:atKey (q::qs) k=some q.2:=by simp[atKey,acr,e']
   rw[ji e,b];exact h2
  ·have e':¬q.1=k:=λz=>e (h1.trans z)
   have b:atKey (q::qs) k=atKey qs k:=by simp[atKey,acr,e']
   rw[ja e,b];exact ih
theorem KT.P7{H:Hp}{kvs:List (List Key×V)}{xs:List (List Key×Addr×Value)}(r:KT H kvs xs)(k:List Key){y:V}{u:Value}(ry:RelV y u) :
  KT H (kvs.map λkv=>if kv.1=k then(kv.1,y) else kv) (xs.map (putAt k u)):=by
 induction r with
 | nil=>exact .nil
 | @cons p q ps qs h t ih=>
  rw[aaK,aaK]
  refine .cons ?_ ih
  obtain⟨h1,h2,h3⟩:=h
  unfold putAt
  by_cases e:p.1=k
  ·rw[aax e,aax (h1.symm.trans e)];exact⟨h1,h2,ry⟩
  ·rw[aav e,aav (λz=>e (h1.trans z))];exact⟨h1,h2,h3⟩
theorem KT.put{H:Hp}{kvs:List (List Key×V)}{xs:List (List Key×Addr×Value)}(r:KT H kvs xs)(k:List Key){b:Addr}{y:V}{u:Value}(hb:H b=some (.tup (k.map kV)))(ry:RelV y u) :
  KT H (putK kvs k y) (storedH xs k b u):=by
 have e:(kvs.any λkv=>decide (kv.1=k))=(atKey xs k).isSome:=by
  rw[rG,(r.val k).pC,Option.isSome_map]
 unfold putK storedH
 rw[e]
 by_cases q:(atKey xs k).isSome=true
 ·rw[aax q,aax q];exact r.P7 k ry
 ·rw[aav q,aav q];exact Paired.snoc r ⟨rfl,hb,ry⟩
theorem KT.keeps{H H':Hp}{kvs:List (List Key×V)}{xs:List (List Key×Addr×Value)}(r:KT H kvs xs)(ht:∀b ys,H b=some (.tup ys)->H' b=some (.tup ys)):KT H' kvs xs:=
 Paired.i4 r λ_ _ z=>⟨z.1,ht _ _ z.2.1,z.2.2⟩
section
variable{P:Program}{w:World}{H:Hp}{h:Heap}{a:Addr}
theorem Oz{u:HO}(ok:rq P w H h)(e:Rd H a u):i0 P w H h a u:=e.ok ok
theorem xR{kvs:List (Key×V)}(ok:rq P w H h)(e:Rd H a (.dK kvs)):kvs.length<=sizeLine/\(a ==sysModules)=false/\∃vs,KV kvs vs/\h.DictOf (jd P w) a vs:=
 show i0 P w H h a (.dK kvs) from Oz ok e
theorem JU{kvs:List (Key×V)}(ok:rq P w H h)(e:H a=some (.dK kvs)):kvs.length<=sizeLine/\(a ==sysModules)=false/\∃vs,KV kvs vs/\h.DictOf (jd P w) a vs:=xR ok (.inl e)
theorem um{ks:List Key}(ok:rq P w H h)(e:H a=some (.tup (ks.map kV))):(tupleKind (jd P w)).is h ks a:=by
 obtain⟨_,hE,r,o,h1,h2,n,h3⟩:=(show i0 P w H h a (.tup (ks.map kV)) from ok a _ e)
 exact⟨o,hE.toArray,n,h1,h2,h3,by simpa using BK r⟩
theorem xS{kvs:List (List Key×V)}(ok:rq P w H h)(e:Rd H a (.dT kvs)):kvs.length<=sizeLine/\(a ==sysModules)=false/\
  ∃xs,KT H kvs xs/\h.DictOfH (tupleKind (jd P w)) a xs:=by
 obtain⟨z,y,xs,r,o,es,ep,h1,h2,h3,h4,h5⟩:=(show i0 P w H h a (.dT kvs) from Oz ok e)
 refine⟨z,y,xs,r,o,es,ep,h1,h2,h3,h4,λx hx=>?_,h5⟩
 have all:∀{l:List (List Key×V)} {m:List (List Key×Addr×Value)},KT H l m->∀x∈m,(tupleKind (jd P w)).is h x.1 x.2.1:=by
  intro l m q
  induction q with
  | nil=>intro x hx;exact nomatch hx
  | @cons p q ps qs hq t ih=>
   intro x hx
   rcases aag.mp hx with e|hx
   ·subst e
    exact um ok (by rw[<-hq.1];exact hq.2.1)
   ·exact ih x hx
 exact all r x hx
theorem JV{kvs:List (List Key×V)}(ok:rq P w H h)(e:H a=some (.dT kvs)):kvs.length<=sizeLine/\(a ==sysModules)=false/\
 ∃xs,KT H kvs xs/\h.DictOfH (tupleKind (jd P w)) a xs:=xS ok (.inl e)
end
def i6(H:Hp)(a:Addr)(y:V)(r:Option V):Prop:=
 (∃kvs k,Rd H a (.dK kvs)/\y=kV k/\r=iN kvs k)\/∃kvs k b,Rd H a (.dT kvs)/\y=.ref b/\H b=some (.tup (k.map kV))/\r=iN kvs k
def nE(H:Hp)(a:Addr)(y v:V)(H':Hp):Prop:=
 (∃kvs k,H a=some (.dK kvs)/\y=kV k/\kvs.length<sizeLine/\H'=upd H a (.dK (putK kvs k v)))\/
 ∃kvs k b,H a=some (.dT kvs)/\y=.ref b/\H b=some (.tup (k.map kV))/\kvs.length<sizeLine/\H'=upd H a (.dT (putK kvs k v))
theorem i6.k{H:Hp}{a:Addr}{kvs:List (Key×V)}{k:Key}(e:H a=some (.dK kvs)):i6 H a (kV k) (iN kvs k):=.inl ⟨kvs,k,.inl e,rfl,rfl⟩
theorem i6.t{H:Hp}{a b:Addr}{kvs:List (List Key×V)}{k:List Key}(e:H a=some (.dT kvs))(eb:H b=some (.tup (k.map kV))):i6 H a (.ref b) (iN kvs k):=.inr ⟨kvs,k,b,.inl e,rfl,eb,rfl⟩
theorem nE.k{H:Hp}{a:Addr}{kvs:List (Key×V)}{k:Key}{v:V}(e:H a=some (.dK kvs))(hl:kvs.length<sizeLine):nE H a (kV k) v (upd H a (.dK (putK kvs k v))):=.inl ⟨kvs,k,e,rfl,hl,rfl⟩
theorem nE.t{H:Hp}{a b:Addr}{kvs:List (List Key×V)}{k:List Key}{v:V}(e:H a=some (.dT kvs))(eb:H b=some (.tup (k.map kV)))(hl:kvs.length<sizeLine) :
 nE H a (.ref b) v (upd H a (.dT (putK kvs k v))):=.inr ⟨kvs,k,b,e,rfl,eb,hl,rfl⟩
section
variable{X:Cx}{c_:Qqz}{Z:St}{H:Hp}{s:Shared}{a:Addr}{y v:V}{u r:Value}{o:Option V}{A:Around}{E:Qqq}
theorem Inv.big(I:Inv X c_ Z H s):sysModules<s.heap.objs.size:=by
 have h:mainGlobals<s.heap.objs.size:=(I.mod.glob.keeps I.bk).lt
 exact Nat.lt_trans (by decide) h
theorem Ir{Q:Qqq}(hu:A.units+1<cLine)(I:Inv X c_ Z H s)(g:i6 H a y (some v))(ry:RelV y u)(h:∀w' s',Inv X c_ Z H s'->RelV v w'->Q w' s') :
  wpAny (model X.prog X.w) A (getItem (.ref a) u) Q E s:=by
 rcases g with⟨kvs,k,e,ey,l⟩|⟨kvs,k,b,e,ey,eb,l⟩
 ·subst ey
  obtain⟨z,hd,vs,rel,dd⟩:=xR I.iK e
  obtain⟨w',hw,Bw⟩:=pw.some_of (v:=v) (o:=valueAt vs k) (by rw[l];exact rel.val k)
  exact wpAny_getItem_of (zz ry) dd.mapOf hw (h w' _ (I.tok _) Bw)
 ·subst ey
  cases (show u=Value.ref b from ry)
  obtain⟨z,hd,xs,rel,dd⟩:=xS I.iK e
  obtain⟨w',hw,Bw⟩:=pw.some_of (v:=v) (o:=(atKey xs k).map (·.2)) (by rw[l];exact rel.val k)
  obtain⟨p,hp,A7⟩:=Option.map_eq_some_iff.mp hw
  refine wpAny_getItem_heap (abX hu) (um I.iK eb) dd hp ?_
  rw[A7]
  exact h w' _ (I.tok _) Bw
theorem XM{Q:Qqq}(hu:A.units+1<cLine)(I:Inv X c_ Z H s)(g:i6 H a y o)(ry:RelV y u)(h:∀s',Inv X c_ Z H s'->Q (.bool o.isSome) s') :
  wpAny (model X.prog X.w) A (compareOp .In u (.ref a)) Q E s:=by
 rcases g with⟨kvs,k,e,ey,l⟩|⟨kvs,k,b,e,ey,eb,l⟩
 ·subst ey
  obtain⟨z,hd,vs,rel,dd⟩:=xR I.iK e
  refine wpAny_in_of (zz ry) hd dd.mapOf ?_
  rw[<-(rel.val k).pC,<-l]
  exact h _ (I.tok _)
 ·subst ey
  cases (show u=Value.ref b from ry)
  obtain⟨z,hd,xs,rel,dd⟩:=xS I.iK e
  refine wpAny_in_heap (abX hu) (um I.iK eb) hd dd ?_
  have q:=(rel.val k).pC
  rw[Option.isSome_map] at q
  rw[<-q,<-l]
  exact h _ (I.tok _)
theorem MN{Q:Qqq}(hu:A.units+1<cLine)(I:Inv X c_ Z H s)(g:i6 H a y o)(ry:RelV y u)(h:∀s',Inv X c_ Z H s'->Q (.bool (!o.isSome)) s') :
  wpAny (model X.prog X.w) A (compareOp .NotIn u (.ref a)) Q E s:=by
 rcases g with⟨kvs,k,e,ey,l⟩|⟨kvs,k,b,e,ey,eb,l⟩
 ·subst ey
  obtain⟨z,hd,vs,rel,dd⟩:=xR I.iK e
  refine wpAny_notIn_of (zz ry) hd dd.mapOf ?_
  rw[<-(rel.val k).pC,<-l]
  exact h _ (I.tok _)
 ·subst ey
  cases (show u=Value.ref b from ry)
  obtain⟨z,hd,xs,rel,dd⟩:=xS I.iK e
  refine wpAny_notIn_heap (abX hu) (um I.iK eb) hd dd ?_
  have q:=(rel.val k).pC
  rw[Option.isSome_map] at q
  rw[<-q,<-l]
  exact h _ (I.tok _)
theorem tf{h':Heap}{t':Nat}{ob:HO}(I:Inv X c_ Z H s)(mu:Oq (H a))(hs:Heap.SameBut a s.heap h')(he:∃q,h'.get? a=some q)(new:i0 X.prog X.w (upd H a ob) h' a ob) :
  Inv X c_ Z (upd H a ob) {s with heap:=h',toks:=t'}:=
 I.write (x:=a) (e:=a) mu (.inl rfl) (λb q hb z=>(hs.2 b hb).trans z) he new
theorem Gm{P:Program}{w:World}{H':Hp}{h':Heap}{kvs:List (Key×V)}{vs:List (Key×Value)}(z:kvs.length<=sizeLine)(hd:(a ==sysModules)=false)(rel:KV kvs vs)(dd:h'.DictOf (jd P w) a vs) :
 i0 P w H' h' a (.dK kvs):=⟨z,hd,vs,rel,dd⟩
theorem Iu{H':Hp}{Q:Unit->Shared->Prop}(hu:A.units+1<cLine)(I:Inv X c_ Z H s)(g:nE H a y v H')(ry:RelV y u)(rv:RelV v r)(h:∀s',Inv X c_ Z H' s'->Q () s') :
  wpAny (model X.prog X.w) A (setItem (.ref a) u r) Q E s:=by
 rcases g with⟨kvs,k,e,ey,l,eH⟩|⟨kvs,k,b,e,ey,eb,l,eH⟩
 ·subst ey eH
  obtain⟨z,hd,vs,rel,dd⟩:=JU I.iK e
  have hz:vs.length<=sizeLine:=by rw[<-rel.length];exact z
  have hl:(putK kvs k v).length<=sizeLine:=by have:=jr kvs k v;omega
  refine wpAny_setItem_pairs (hsz:=hz) (zz ry) dd λh' Mq hs=>h _ ?_
  have he:∃q,h'.get? a=some q:=let ⟨q,_,_,hq,_⟩:=Mq;⟨q,hq⟩
  exact tf I (by rw[e];exact True.intro) hs he (Gm hl hd (rel.put k rv) Mq)
 ·subst ey eH
  cases (show u=Value.ref b from ry)
  obtain⟨z,hd,xs,rel,dd⟩:=JV I.iK e
  have hz:xs.length<=sizeLine:=by rw[<-aau rel];exact z
  have hl:(putK kvs k v).length<=sizeLine:=by have:=jr kvs k v;omega
  refine wpAny_setItem_heap (hsz:=hz) (abX hu) (um I.iK eb) dd λh' Mq hs=>h _ ?_
  obtain⟨q,es,ep,hq,h2,h3,h4,_,h5⟩:=Mq
  refine tf I (by rw[e];exact True.intro) hs ⟨q,hq⟩ ⟨hl,hd,_,(rel.put k eb rv).keeps λc ys ec=>?_,q,es,ep,hq,h2,h3,h4,h5⟩
  rw[d_ (iS ec e (λz=>nomatch z))]
  exact ec
end
section
variable{X:Cx}{c_:Qqz}{Z:St}{H:Hp}{s:Shared}{a:Addr}{kvs:List (Key×V)}{k:Key}{u:Value}{A:Around}{E:Qqq}
theorem Ts{v:V}{more:List Value}{Q:Qqq}(I:Inv X c_ Z H s)(e:H a=some (.dK kvs))(ry:RelV (kV k) u)(l:iN kvs k=some v)(hm:more=[]\/∃x,more=[x])
  (h:∀w' s',Inv X c_ Z (upd H a (.dK (jV kvs k))) s'->RelV v w'->Q w' s'):wpAny (model X.prog X.w) A (call (.builtin "dict.pop") (.ref a::u::more)) Q E s:=by
 obtain⟨z,hd,vs,rel,dd⟩:=JU I.iK e
 obtain⟨w',hw,Bw⟩:=pw.some_of (v:=v) (o:=valueAt vs k) (by rw[<-l];exact rel.val k)
 have hp:(keyPart u).isSome=true:=by
  cases k with
  | inl i=>obtain⟨t,q⟩:=(show ∃t,u=Value.int i t from ry);subst q;rfl
  | inr x=>obtain⟨t,q⟩:=(show ∃t,u=Value.str x t from ry);subst q;rfl
 have ha:argsOk "dict.pop" ⟨.ref a::u::more,[]⟩:=by
  rcases hm with q|⟨x,q⟩
  ·subst q;exact PySem.F.args_dict_pop_2 _ _
  ·subst q;exact PySem.F.args_dict_pop_3 _ _ _
 refine call_meetsIn acs dd.typeIs PySem.F.entry_dict_pop ha (meets_dict_pop_there (jd X.prog X.w) a (zz ry) more hm hp)
  ⟨vs,w',dd,by rw[<-rel.length];exact z,hw,λh' Mq hs=>h w' _ ?_ Bw⟩
 have he:∃q,h'.get? a=some q:=let ⟨q,_,_,hq,_⟩:=Mq;⟨q,hq⟩
 exact tf I (by rw[e];exact True.intro) hs he (Gm (aam (Es kvs k) z) hd (rel.drop k) Mq)
end
def P8(i:Expr):Prop:=∀ov iv,subscripted i false ov iv=operate [ov,iv] (getItem ov iv)
theorem MO{prog:Program}{w:World}{A:Around}{E:Qqq}{s:Shared}{env:Env}{value slice:Expr}{pos:Pos}{T id:String}{Q:Qqq}
  (hl:typeLookup (.type T) "__getitem__"=pure (some (.builtin id))) (hs:P8 slice)
  (h:wpAny (model prog w) A (eval value env) (λo s1=>wpAny (model prog w) A (eval slice env) (λi s2=>s2.TypeIs o T/\wpAny (model prog w) A (getItem o i) Q E s2) E s1) E s) :
  wpAny (model prog w) A (eval (.Subscript value slice pos) env) Q E s:=by
 refine Subscript_ (abJ h (λo s1 h1=>abJ h1 (λi s2 h2=>?_) λ_ _ x=>x) λ_ _ x=>x)
 obtain⟨hT,h2⟩:=h2
 unfold subscriptTail
 refine UU ?_
 rw[getitemInPython_of_ne hT.not_modules]
 refine UU (acu hT hl ?_)
 have fin:wpAny (model prog w) A (subscripted slice false o i) (λr s3=>wpAny (model prog w) A (letTemporaryGo value o r >>= λ_=>pure r) Q E s3) E s2:=by
  rw[hs o i]
  exact wpAny_operating (abJ h2 (λr s3 h3=>UU (wpAny_letTemporaryGo (aay h3))) λ_ _ x=>x)
 first
  | exact aay (UU fin)
  | exact UU (aay (UU fin))
  | exact UU fin
theorem Et{X:Cx}{c_:Qqz}{Z:St}{H:Hp}{s:Shared}{a:Addr}{y:V}{o:Option V}(I:Inv X c_ Z H s)(g:i6 H a y o):s.TypeIs (.ref a) "dict":=by
 rcases g with⟨kvs,k,e,_,_⟩|⟨kvs,k,b,e,_,_,_⟩
 ·obtain⟨_,_,vs,_,dd⟩:=xR I.iK e
  exact dd.typeIs
 ·obtain⟨_,_,xs,_,dd⟩:=xS I.iK e
  exact dd.typeIs
def OA(td ty:TE):TE:=λZ H Q=>td Z H λx H1=>ty Z H1 λy H2=>∃a v,x=.ref a/\i6 H2 a y (some v)/\Q v H2
def XN(ty td:TE):TE:=λZ H Q=>ty Z H λy H1=>td Z H1 λx H2=>∃a o,x=.ref a/\i6 H2 a y o/\Q (.bl o.isSome) H2
def MP(ty td:TE):TE:=λZ H Q=>ty Z H λy H1=>td Z H1 λx H2=>∃a o,x=.ref a/\i6 H2 a y o/\Q (.bl (!o.isSome)) H2
def Tt(td ty tv:TE):TS:=λD Z H=>tv Z H λv H1=>td Z H1 λx H2=>ty Z H2 λy H3=>∃a H4,x=.ref a/\nE H3 a y v H4/\D.nx Z H4
section
variable{X:Cx}{o i e value:Expr}{pos pos' Rg:Pos}{td ty tv:TE}
theorem MQ(hu:X.A.units+1<cLine)(ho:PE X o td)(hi:PE X i ty)(hs:P8 i):PE X (.Subscript o i pos) (OA td ty):=by
 intro c_ s Z H Q I h
 refine MO PySem.F.slot_dict_getitem.lookup hs (i3 (ho c_ s Z H _ I h) λu s1 iH=>?_)
 obtain⟨x,H1,I1,rx,q1⟩:=iH
 refine i3 (hi c_ s1 Z H1 _ I1 q1) λiv s2 Jo=>?_
 obtain⟨y,H2,I2,ry,a,v,ex,g,q2⟩:=Jo
 subst ex
 obtain rfl:u=Value.ref a:=rx
 exact⟨Et I2 g,Ir hu I2 g ry λw' s3 I3 Bw=>⟨v,H2,I3,Bw,q2⟩⟩
theorem o3(hu:X.A.units+1<cLine)(hi:PE X i ty)(ho:PE X o td):PC X .In i o (XN ty td):=by
 intro c_ s Z H Q I h
 refine i3 (hi c_ s Z H _ I h) λiv s1 iH=>?_
 obtain⟨y,H1,I1,ry,q1⟩:=iH
 refine i3 (ho c_ s1 Z H1 _ I1 q1) λu s2 Jo=>?_
 obtain⟨x,H2,I2,rx,a,ov,ex,g,q2⟩:=Jo
 subst ex
 obtain rfl:u=Value.ref a:=rx
 exact XM hu I2 g ry λs3 I3=>⟨.bl ov.isSome,H2,I3,rfl,q2⟩
theorem lC(hu:X.A.units+1<cLine)(hi:PE X i ty)(ho:PE X o td):PC X .NotIn i o (MP ty td):=by
 intro c_ s Z H Q I h
 refine i3 (hi c_ s Z H _ I h) λiv s1 iH=>?_
 obtain⟨y,H1,I1,ry,q1⟩:=iH
 refine i3 (ho c_ s1 Z H1 _ I1 q1) λu s2 Jo=>?_
 obtain⟨x,H2,I2,rx,a,ov,ex,g,q2⟩:=Jo
 subst ex
 obtain rfl:u=Value.ref a:=rx
 exact MN hu I2 g ry λs3 I3=>⟨.bl (!ov.isSome),H2,I3,rfl,q2⟩
theorem jB(hu:X.A.units+1<cLine)(ho:PE X o td)(hi:PE X i ty)(hv:PE X value tv)(hs:swapsWith value (some (.Subscript o i pos')) pos.line X.env=pure false) :
  PS X (.Assign [.Subscript o i pos'] value pos) (Tt td ty tv):=by
 intro c_ s Z H D I h
 refine wpAny_Assign_Subscript (i3 (hv c_ s Z H _ I h) λr s1 iH=>?_) hs
 obtain⟨v,H1,I1,rv,q1⟩:=iH
 refine i3 (ho c_ s1 Z H1 _ I1 q1) λu s2 Jo=>?_
 obtain⟨x,H2,I2,rx,q2⟩:=Jo
 refine i3 (hi c_ s2 Z H2 _ I2 q2) λiv s3 zz2=>?_
 obtain⟨y,H3,I3,ry,a,H4,ex,g,q3⟩:=zz2
 subst ex
 obtain rfl:u=Value.ref a:=rx
 exact Iu hu I3 g ry rv λs4 I4=>⟨Z,H4,I4,q3⟩
end
theorem JW{P:Program}{w:World}{H:Hp}(h:Heap)(hb:sysModules<h.objs.size):i0 P w H (h.push {cls:=.type "dict",data:=.dict #[]}) h.objs.size (.dK []):=
 ⟨aaY _,beq_eq_false_iff_ne.mpr (ab0 (aa0 hb)),[],.nil,Heap.DictOf.new h⟩
theorem JX{P:Program}{w:World}{H:Hp}(h:Heap)(hb:sysModules<h.objs.size):i0 P w H (h.push {cls:=.type "dict",data:=.dict #[]}) h.objs.size (.dT []):=
 ⟨aaY _,beq_eq_false_iff_ne.mpr (ab0 (aa0 hb)),[],.nil,_,#[],0,aaN _ rfl,⟨rfl,rfl,rfl⟩,rfl,rfl,abt⟩
def P9:TE:=λ_ H Q=>∀p,H p=none->Q (.ref p) (upd H p (.dK []))
def P_:TE:=λ_ H Q=>∀p,H p=none->Q (.ref p) (upd H p (.dT []))
section
variable{X:Cx}{pos:Pos}
theorem nK:PE X (.Dict [] [] pos) P9:=λc_ s Z H Q I h=>
 wpAny_Dict_empty ⟨.ref s.heap.objs.size,_,I.laid (a:=s.heap.objs.size) (o:=.dK []) (t':=s.toks) (λ_ _ q=>aaB _ q) (XU _) (JW s.heap I.big),rfl,h _ (I.iK.fresh (XU _))⟩
theorem mE:PE X (.Dict [] [] pos) P_:=λc_ s Z H Q I h=>
 wpAny_Dict_empty ⟨.ref s.heap.objs.size,_,I.laid (a:=s.heap.objs.size) (o:=.dT []) (t':=s.toks) (λ_ _ q=>aaB _ q) (XU _) (JX s.heap I.big),rfl,h _ (I.iK.fresh (XU _))⟩
end
structure M1(X:Cx)(o:Expr)(m:Str)(apos:Pos)(e:Expr)(kX:Pos):Prop where
 base:attributeBase o m X.env (eval o X.env)=eval o X.env
 jM:((backTo kX (starEach [e] X.env)).all (λx=>!x.1)&&(backToKw kX (keywordEach [] X.env)).all (λx=>x.1.isSome)
  &&decide (([e]:List Expr).length+([]:List Keyword).length+(if([]:List Keyword).isEmpty then 0 else 1)<30))=true
 line:(apos.endLine ==kX.line)=true
 trees:backTo kX (starEach [e] X.env)=[(false,eval e X.env)]
structure M2(X:Cx)(o:Expr)(m:Str)(apos:Pos)(e f:Expr)(kX:Pos):Prop where
 base:attributeBase o m X.env (eval o X.env)=eval o X.env
 jM:((backTo kX (starEach [e,f] X.env)).all (λx=>!x.1)&&(backToKw kX (keywordEach [] X.env)).all (λx=>x.1.isSome)
  &&decide (([e,f]:List Expr).length+([]:List Keyword).length+(if([]:List Keyword).isEmpty then 0 else 1)<30))=true
 line:(apos.endLine ==kX.line)=true
 trees:backTo kX (starEach [e,f] X.env)=[(false,eval e X.env),(false,eval f X.env)]
def R4(H:Hp)(a:Addr):Prop:=(∃kvs,Rd H a (.dK kvs))\/∃kvs,Rd H a (.dT kvs)
theorem zA{X:Cx}{c_:Qqz}{Z:St}{H:Hp}{s:Shared}{a:Addr}(I:Inv X c_ Z H s)(d:R4 H a) :
  s.TypeIs (.ref a) "dict"/\(∀b,Value.ref a=.ref b->∃ob,s.heap.get? b=some ob/\ob.dict=none)/\(a ==sysModules)=false:=by
 rcases d with⟨kvs,e⟩|⟨kvs,e⟩
 ·obtain⟨_,hd,vs,_,dd⟩:=xR I.iK e
  refine⟨dd.typeIs,λb q=>?_,hd⟩
  cases q
  obtain⟨ob,_,_,h1,h2,_⟩:=dd
  exact⟨ob,h1,h2.2.1⟩
 ·obtain⟨_,hd,xs,_,dd⟩:=xS I.iK e
  refine⟨dd.typeIs,λb q=>?_,hd⟩
  cases q
  obtain⟨ob,_,_,h1,h2,_⟩:=dd
  exact⟨ob,h1,h2.2.1⟩
section
variable{X:Cx}{c_:Qqz}{Z:St}{H:Hp}{s:Shared}{a:Addr}{y d:V}{u r:Value}{o:Option V}{A:Around}{E:Qqq}
theorem Qb{Q:Qqq}(hu:A.units+1<cLine)(I:Inv X c_ Z H s)(g:i6 H a y o)(ry:RelV y u)(rd:RelV d r)(h:∀w' s',Inv X c_ Z H s'->RelV (o.getD d) w'->Q w' s') :
  wpAny (model X.prog X.w) A (call (.builtin "dict.get") [.ref a,u,r]) Q E s:=by
 rcases g with⟨kvs,k,e,ey,l⟩|⟨kvs,k,b,e,ey,eb,l⟩
 ·subst ey
  obtain⟨z,hd,vs,rel,dd⟩:=xR I.iK e
  refine call_meetsIn PySem.F.slot_dict_get dd.typeIs PySem.F.entry_dict_get (PySem.F.args_dict_get_3 _ _ _) (meets_dict_get_default (jd X.prog X.w) a (zz ry) hd r) ⟨_,dd.mapOf,h _ _ (I.tok _) ?_⟩
  rw[l]
  exact(rel.val k).getD rd
 ·subst ey
  cases (show u=Value.ref b from ry)
  obtain⟨z,hd,xs,rel,dd⟩:=xS I.iK e
  refine call_meetsIn PySem.F.slot_dict_get dd.typeIs PySem.F.entry_dict_get (PySem.F.args_dict_get_3 _ _ _) (meetsH_dict_get_default (tupleKind (jd X.prog X.w)) a b hd r) ⟨abX hu,k,xs,um I.iK eb,dd,h _ _ (I.tok _) ?_⟩
  rw[l]
  exact(rel.val k).getD rd
end
def Qc(td ty tx:TE):TE:=λZ H Q=>td Z H λx H1=>∃a,x=.ref a/\R4 H1 a/\ty Z H1 λy H2=>tx Z H2 λz H3=>∃o,i6 H3 a y o/\Q (o.getD z) H3
def Qd(td ty:TE):TE:=λZ H Q=>td Z H λx H1=>∃a,x=.ref a/\R4 H1 a/\ty Z H1 λy H2=>∃kvs k v,H2 a=some (.dK kvs)/\y=kV k/\iN kvs k=some v/\Q v (upd H2 a (.dK (jV kvs k)))
section
variable{X:Cx}{o e f:Expr}{apos kX:Pos}{td ty tx:TE}
theorem JY(hu:X.A.units+1<cLine)(ho:PE X o td)(he:PE X e ty)(hf:PE X f tx)(m:M2 X o "get" apos e f kX):PE X (.Call (.Attribute o "get" apos) [e,f] [] kX) (Qc td ty tx):=by
 intro c_ s Z H Q I h
 refine wpAny_Call_method m.base m.jM m.line ab1 PySem.F.slot_dict_get PySem.F.type_dict_get (i3 (ho c_ s Z H _ I h) λu s1 iH=>?_)
 obtain⟨x,H1,I1,rx,a,ex,d,q1⟩:=iH
 subst ex
 obtain rfl:u=Value.ref a:=rx
 obtain⟨t1,t2,_⟩:=zA I1 d
 refine⟨t1,t2,?_⟩
 rw[m.trees]
 refine abA rfl (abK (abx (i3 (he c_ s1 Z H1 _ I1 q1) λiv s2 ⟨y,H2,I2,ry,q2⟩=>
  abx (i3 (hf c_ s2 Z H2 _ I2 q2) λfv s3 ⟨z,H3,I3,rz,ov,g,q3⟩=>abN ?_))))
 exact Qb hu I3 g ry rz λw' s4 I4 Bw=>⟨_,H3,I4,Bw,q3⟩
theorem JZ(ho:PE X o td)(he:PE X e ty)(m:M1 X o "pop" apos e kX):PE X (.Call (.Attribute o "pop" apos) [e] [] kX) (Qd td ty):=by
 intro c_ s Z H Q I h
 refine wpAny_Call_method m.base m.jM m.line ab1 acs PySem.F.type_dict_pop (i3 (ho c_ s Z H _ I h) λu s1 iH=>?_)
 obtain⟨x,H1,I1,rx,a,ex,d,q1⟩:=iH
 subst ex
 obtain rfl:u=Value.ref a:=rx
 obtain⟨t1,t2,_⟩:=zA I1 d
 refine⟨t1,t2,?_⟩
 rw[m.trees]
 refine abA rfl (abK (abx (i3 (he c_ s1 Z H1 _ I1 q1) λiv s2 iH=>?_)))
 obtain⟨y,H2,I2,ry,kvs,k,v,ea,ey,l,q2⟩:=iH
 refine abN ?_
 subst ey
 exact Ts I2 ea ry l (.inl rfl) λw' s3 I3 Bw=>⟨v,_,I3,Bw,q2⟩
end
section
variable{X:Cx}{c_:Qqz}{Z:St}{H:Hp}{s:Shared}{a:Addr}{kvs:List (Key×V)}{A:Around}{E:Qqq}
end
section
variable{X:Cx}{c_:Qqz}{Z:St}{H:Hp}{s:Shared}{a:Addr}{y:V}{u:Value}{A:Around}{E:Qqq}
end
end L2
namespace Att
open PySem PySem.W PySem.Calls PyProof.Rows
theorem yN{P:Params}{h:Heap}:∀(ns:List Int)(vs:List Value),WellAll P h vs (ns.map WData.int)->IntsAre vs ns:=by
 intro ns
 induction ns with
 | nil=>
  intro vs w
  rw[List.map_nil] at w
  cases w
  exact .nil
 | cons n ns ih=>
  intro vs w
  rw[aaK] at w
  cases w with
  | cons a b=>
   cases a
   exact .cons _ _ (ih _ b)
theorem Iv{l:OpenLaw}{n:Nat}(hn:l.most=some n){P:Params}{h:Heap}{args:List WData}{vals:List Value}
  (Jq:l.row.toRowW.claim.pre args=true) (OX:WellAll P h vals args) :
  ∃a vs ns,vals=[Value.ref a]/\args=[WData.list (ns.map WData.int)]/\h.get? a=some {cls:=.type "list",data:=.seq vs.toArray}/\IntsAre vs ns/\ns.length<=n:=by
 have hsh:WShape.hasAll [] args [.list .int]=true:=(pre_splitW Jq).1
 have hc:l.pre.holds [] {args:=args}=true:=(pre_splitW Jq).2
 obtain⟨d,r,rfl,h1,h2⟩:=hasAllW_cons hsh
 obtain rfl:=hasAllW_nil h2
 obtain⟨xs,rfl,h3⟩:=hasW_list h1
 obtain⟨ns,rfl⟩:=items_int h3
 have hlen:ns.length<=n:=by
  unfold OpenLaw.pre at hc
  have h4:(WTm.not (.lt (.lit (.int (n:Int))) (.len (.arg 0)))).holds [] {args:=[.list (ns.map .int)]}=true:=by
   have h4:=(holds_andW hc).1
   rw[hn] at h4
   exact h4
  have h5:=condW_of h4 (w_not (w_lt w_lit (w_len_list (w_arg rfl))))
  rw[O4] at h5
  refine Nat.le_of_not_lt λq=>?_
  have q':(n:Int)<((ns.length:Nat):Int):=by omega
  first
   | (rw[XZ q'] at h5;exact absurd h5 (by decide))
   | (simp at h5;omega)
 cases OX with
 | cons w1 w2=>
  cases w2
  cases w1 with
  | list ho wo=>exact⟨_,_,ns,rfl,rfl,ho,yN ns _ wo,hlen⟩
theorem Iw(l:OpenLaw)(args:List WData):l.row.toRowW.claim.post args (.bool true) args=true:=
 postW_of (r:=l.row.toRowW) (X:=(true ==true))
  (show WShape.has [] (.bool true) .bool=true by first|rfl|decide|simp[WShape.has,WShape.arms,WShape.armsAll])
  (show(WTm.eq .res (.lit (.bool true))).value [] {args:=args,res:=some (.bool true),after:=args}=some (.bool (true ==true)) from w_eq_bool (w_res rfl) w_lit) rfl
theorem Eu{l:OpenLaw}{n:Nat}{q:Program}{loose:List Str}{XP:(Qqx)->Heap->Prop}{YP:World->Heap->Prop}{d:DefRec}
  (hn:l.most=some n) (Ux:d.params.defaults=[])
  (call:∀(w:World)(s0 s1:Shared)(mg mb:Qqx)(fa:Addr)(o:Obj)(pm cd doc:Value)(a:Addr)(vs:List Value)(ns:List Int),
   Ground q loose [] XP w s0 mg mb s1.heap->YP w s1.heap->
   s1.heap.get? fa=some o->o.data=.func (docDef d.name d.params d.body d.scope pm cd doc)->s1.heap.CodeRec cd d.name->mg d.name=some (.ref fa)->
   s1.heap.get? a=some {cls:=.type "list",data:=.seq vs.toArray}->IntsAre vs ns->ns.length<=n->s1.gens=#[]->
   codeAny (model l.prog w) callerA (.call (.ref fa) ⟨[.ref a],[]⟩) (λr s'=>r=.ok (.ret (.bool true))/\OldK s1.heap s'.heap/\s'.os=s1.os/\AllBare s'.gens) s1) :
  WalkO q loose XP YP l.row.toRowW d [] (λf vs=>PySem.call f vs):=by
 intro w s0 s1 mg mb G Y fa o pm cd doc dV kV ho hd Cn hD Uy hg args vals as Jq hlay hrd OX OY
 obtain rfl:dV=.none:=Dflts.none hD Ux
 obtain rfl:kV=.none:=Dflts.noKw hD
 obtain⟨a,vs,ns,rfl,rfl,Ri,hints,hlen⟩:=Iv hn Jq OX
 refine enter_call (codeAny_mono (call w s0 s1 mg mb fa o pm cd doc a vs ns G Y ho (fd_plain hd) Cn Uy Ri hints hlen hg) λr s' hq=>?_)
 obtain⟨rfl,h2,h3,h4⟩:=hq
 exact⟨.inl ⟨.bool true,.bool true,[],rfl,λ_=>rfl,.bool true,Iw l _,λ_=>⟨List.Pairwise.nil,λ_ hm=>(nomatch hm)⟩⟩,h2,h3,h4⟩
section
variable{prog:Program}{w:World}{A:Around}{E:Qqq}{s:Shared}{K:Frag}
def ledger(h:Heap)(L d:Addr):Qqz:=(List.range h.objs.size).filterMap λa=>if a=L\/a=d then none else(h.get? a).map λo=>(a,o)
end
end Att
namespace L2
open PySem PySem.Spec PyProof.Rows
theorem BL:∀{vs:List Value} {ns:List Int},IntsAre vs ns->Vals (ns.map V.int) vs
 | _,_,.nil=>.nil
 | _,_,.cons n t h=>.cons ⟨t,rfl⟩ (BL h)
def Qe(H:Hp):Prop:=∀b,H b=none\/∃o xs,H b=some (.ni o (.lst xs))
theorem J0{P:Program}{w:World}{K:Qqy}{mg mb:Qqx}{CX:Hl}{k:Nat}{fa a:Addr}{fd:FuncData}{x:Str}{sp:Sp}{s1:Shared}{vs:List Value}{ns:List Int}
  (KX:K.In s1.heap) (hns:s1.heap.Ns mainGlobals mg) (hb:s1.heap.Ns builtinsNs mb) (LO:∀x:Str,x≠"__name__"->mb x=bootBuiltins x) (Yu:s1.heap.NoLimit) (hg:s1.gens=#[])
  (ha:s1.heap.get? a=some {cls:=.type "list",data:=.seq vs.toArray}) (hi:IntsAre vs ns) (hl:ns.length<=sizeLine) (hr:kD k callerA)
  (F:∀base:Heap,K.In base->base.Ns mainGlobals mg->ig P w K mg base CX k fa fd [x] sp) (Uz:∀(s:Shared)(u:Value),BindsTo s fd ⟨[u],[]⟩ [(x,u)])
  (Mp:∀H:Hp,Qe H->gC K H a (ns.map V.int)->sp [.ref a] H (λv _=>v=.bl true) λ_ _ _=>False)
  (Yv:∀H e s',CX [] H s1 (λ_ _ _=>False) e s'->False) :
  codeAny (model P w) callerA (.call (.ref fa) ⟨[.ref a],[]⟩) (λr s'=>r=.ok (.ret (.bool true))/\OldK s1.heap s'.heap/\s'.os=s1.os/\AllBare s'.gens) s1:=by
 have rv:=BL hi
 have Yw:=hi.length
 have core:∀H:Hp,Qe H->gC K H a (ns.map V.int)->rq P w H s1.heap->(∀b,H b≠none->b=a)->(H a≠none->K.lookup a=none)->
   codeAny (model P w) callerA (.call (.ref fa) ⟨[.ref a],[]⟩) (λr s'=>r=.ok (.ret (.bool true))/\OldK s1.heap s'.heap/\s'.os=s1.os/\AllBare s'.gens) s1:=by
  intro H hO hS iK hA hK
  have HW:∀{b:Addr} {o:Obj},s1.heap.get? b=some o->H b=none->(Cq s1.heap H).get? b=some o:=λe n=>JE e n
  have OW:∀{b:Addr} {o:Obj} {es:Array DictEntry} {ep:Nat},s1.heap.get? b=some o->o.data=.dict es ep->H b=none:=λ{b o es ep} e d=>by
   cases q:H b with
   | none=>rfl
   | some u=>
    have e':b=a:=hA b (by rw[q];simp)
    subst e'
    rw[ha] at e;cases e
    have d':Data.seq vs.toArray _=Data.dict es ep:=d
    cases d'
  have Wq:∀{b:Addr} {m:Qqx},s1.heap.Ns b m->(Cq s1.heap H).Ns b m:=λ{b m} ⟨o,es,ep,e,d,r⟩=>⟨o,es,ep,HW e (OW e d),d,r⟩
  have hKb:K.In (Cq s1.heap H):=λb o e=>HW (KX b o e) (by
   cases q:H b with
   | none=>rfl
   | some u=>
    have e':b=a:=hA b (by rw[q];simp)
    subst e'
    rw[hK (by rw[q];simp)] at e;cases e)
  have hM:Mod K mg (Cq s1.heap H):=⟨hKb,Wq hns,⟨mb,Wq hb,LO⟩,let ⟨mc,h1,h2⟩:=Yu;⟨mc,Wq h1,h2⟩⟩
  have e0:Gb P w K mg (Cq s1.heap H) callerA [] s1 H:=⟨rfl,hM,λb o e=>Mz e,Nat.le_of_eq (Ig _ _),trivial,λb hb=>absurd (show b∈([]:List Addr) from hb) (by simp),iK,.of_eq hg⟩
  refine codeAny_mono ((F _ hKb (Wq hns)).run callerA [] s1 H ⟨[.ref a],[]⟩ [.ref a] [.ref a] _ _ hr e0 (Uz s1 (.ref a)) (.cons rfl .nil) (Mp H hO hS)) λr s' h=>?_
  cases r with
  | error e=>exact(Yv H e s' h).elim
  | ok fl=>
   cases fl with
   | next=>exact False.elim h
   | brk=>exact False.elim h
   | cont=>exact False.elim h
   | ret u=>
    obtain⟨v,H',os,bare,un,Yx,r',q⟩:=h
    have q':v=.bl true:=q
    subst q'
    obtain rfl:u=Value.bool true:=r'
    refine⟨rfl,OldK.of_keep λb o e=>?_,os,bare⟩
    cases q:H b with
    | none=>exact un.keep b o e q (by intro z;exact absurd (show b∈([]:List Addr) from z) (by simp)) (by simp)
    | some u=>
     rcases hO b with z|⟨ob,xs,z⟩
     ·rw[q] at z;cases z
     ·have z2:=un.uQ b ob _ z
      obtain⟨e1,_⟩:=iK b _ z
      obtain⟨e2,_⟩:=Yx b _ z2
      rw[e] at e1;cases e1
      exact e2
 cases hk:K.lookup a with
 | some o=>
  have e:=KX a o hk
  rw[ha] at e
  cases e
  refine core (λ_=>none) (λ_=>.inl rfl) (.inr ⟨_,vs.toArray,_,hk,rfl,rfl,rfl,by rw[aaz,Yw];exact hl,by simpa using rv⟩) (λb u z=>by have z':(none:Option HO)=some u:=z;cases z') (λb z=>absurd rfl z) λz=>absurd rfl z
 | none=>
  refine core (λb=>if b=a then some (.ni {cls:=.type "list",data:=.seq vs.toArray} (.lst (ns.map V.int))) else none) (λb=>?_) (.inl (.inr ⟨{cls:=.type "list",data:=.seq vs.toArray},aax rfl⟩)) (λb u z=>?_) (λb z=>?_) λ_=>hk
  ·by_cases hb:b=a
   ·exact .inr ⟨_,_,aax hb⟩
   ·exact .inl (aav hb)
  ·by_cases hb:b=a
   ·have z':=(aax hb).symm.trans z
    cases z'
    subst hb
    exact⟨ha,by rw[O4];exact hl,vs,_,rv,ha⟩
   ·have z':=(aav hb).symm.trans z
    cases z'
  ·by_cases hb:b=a
   ·exact hb
   ·exact absurd (aav hb) z
theorem MR{l:W.OpenLaw}{n k:Nat}{q:Program}{loose:List Str}{XP:(Qqx)->Heap->Prop}{YP:World->Heap->Prop}{d:DefRec}{K:Params->Qqy}{CX:World->Hl}{sp:World->Sp}{x:Str}
  (hn:l.most=some n) (Rf:n<=sizeLine) (Ux:d.params.defaults=[]) (hr:kD k callerA)
  (hY:∀(w:World)(h:Heap),YP w h->(K w.params).In h)
  (F:∀(w:World)(mg:Qqx)(fa:Addr)(h:Heap),(K w.params).In h->h.Ns mainGlobals mg->mg d.name=some (.ref fa)->
   ∃fd:FuncData,(∀(s:Shared)(u:Value),BindsTo s fd ⟨[u],[]⟩ [(x,u)])/\
    ∀base:Heap,(K w.params).In base->base.Ns mainGlobals mg->ig l.prog w (K w.params) mg base (CX w) k fa fd [x] (sp w))
  (Mp:∀(w:World)(H:Hp)(a:Addr)(ns:List Int),ns.length<=n->Qe H->gC (K w.params) H a (ns.map V.int)->sp w [.ref a] H (λv _=>v=.bl true) λ_ _ _=>False)
  (Yv:∀(w:World)(H:Hp)(s:Shared)(e:Value)(s':Shared),CX w [] H s (λ_ _ _=>False) e s'->False) :
  W.WalkO q loose XP YP l.row.toRowW d [] (λf vs=>PySem.call f vs):=by
 refine Att.Eu hn Ux λw s0 s1 mg mb fa o pm cd doc a vs ns G Y ho hd Cn Uy Ri hints hlen hg=>?_
 have KX:=hY w _ Y
 obtain⟨fd,hb,hF⟩:=F w mg fa _ KX G.T.g Uy
 exact J0 KX G.T.g G.T.b G.T.builtins G.T.nolimit hg Ri hints (aam hlen Rf) hr hF hb (λH hO hS=>Mp w H a ns hlen hO hS) λH e s'=>Yv w H s1 e s'
noncomputable def inClass(s:Stmt)(j:Nat):Stmt:=match s with
 | .ClassDef _ _ _ body _ _ _ _ _ _ _=>body.getD j (.Pass ⟨0,0,0,0⟩)
 | _=>.Pass ⟨0,0,0,0⟩
noncomputable def oB(s:Stmt):Arguments:=match s with
 | .FunctionDef _ a _ _ _ _ _ _ _ _=>a
 | _=>{posonlyargs:=[],args:=[],vararg:=none,kwonlyargs:=[],kw_defaults:=[],kwarg:=none,defaults:=[]}
noncomputable def lg(s:Stmt):List Stmt:=match s with
 | .FunctionDef _ _ b _ _ _ _ _ _ _=>b
 | _=>[]
noncomputable def gb(s:Stmt):Scope:=match s with
 | .FunctionDef _ _ _ _ _ _ sc _ _ _=>sc
 | _=>{kind:=.function,names:=[],isGenerator:=false,isCoroutine:=false}
abbrev mK:Hl:=λ_ _ _ _ _ _=>False
abbrev E0:XK:=λ_ _ _=>False
theorem pE{X:Cx}:Passes mK X E0:=λ_ _ _ _ _ _ _ h=>h.elim
structure xT(K:Qqy)(x qual:Str)(st:Stmt)(f:Addr)(fd:FuncData):Prop where
 ex:∃(oc:Value)(od:Option Addr)(kV doc pm:Value)(an:Option Addr)(ju ct:Value)(JA:Array (Option Value)),
  fd=W.fnOf x qual (oB st) (lg st) (gb st) .none kV doc pm an ju ct/\K.lookup f=some ⟨oc,od,.func fd,JA⟩/\W.codeIn K ju qual=true
 kp:W.keepIn K (.ref f)=true
section
variable{P:Program}{w:World}{K:Qqy}{mg:Qqx}{base:Heap}
theorem xT.ok{x qual:Str}{st:Stmt}{f:Addr}{fd:FuncData}{N ps:List Str}{k:Nat}{sp:Sp}(F:xT K x qual st f fd)(S:gw N ps (gb st))(len:∀vs H Q E,sp vs H Q E->vs.length=ps.length)
  (wk:∀(ju:Value)(A:Around)(outer:List Env)(s:Shared)(H:Hp)(vs:List V)(Q:VK)(E:XK),kD k (A.deeper (envOfC qual (gb st) s.heap.objs.size f ju))->sp vs H Q E->
   ∃t,FL (wF mK P w K mg base N qual (gb st) f ju A outer s H E).S6 (lg st) t/\t {nx:=λ_ H'=>Q .jc H',rt:=Q} (start N vs) H):ig P w K mg base mK (k+1) f fd ps sp:=by
 obtain⟨oc,od,kV,doc,pm,an,ju,ct,JA,rfl,lk,Cn⟩:=F.ex
 refine Oy lk Cn S len λA outer s H vs Q E hr Mp=>?_
 obtain⟨t,h,q⟩:=wk ju A outer s H vs Q E hr Mp
 exact⟨t,h.S6,q⟩
theorem xT.binds{x qual:Str}{st:Stmt}{f:Addr}{fd:FuncData}{ps:List Str}(F:xT K x qual st f fd)
  (h:∀(kV doc pm:Value)(an:Option Addr)(ju ct:Value)(us:List Value),us.length=ps.length->bindArgs (W.fnOf x qual (oB st) (lg st) (gb st) .none kV doc pm an ju ct) ⟨us,[]⟩=pure (ps.zip us)):Binds K fd ps []:=by
 obtain⟨oc,od,kV,doc,pm,an,ju,ct,JA,rfl,lk,Cn⟩:=F.ex
 exact .all (h kV doc pm an ju ct)
theorem J2{x qual:Str}{st:Stmt}{f:Addr}{oc:Value}{od an:Option Addr}{JA:Array (Option Value)}{kV doc pm ju ct:Value}(l:K.lookup f=some ⟨oc,od,.func (W.fnOf x qual (oB st) (lg st) (gb st) .none kV doc pm an ju ct),JA⟩)
 (c:W.codeIn K ju qual=true) (k:W.keepIn K (.ref f)=true):xT K x qual st f (W.fnOf x qual (oB st) (lg st) (gb st) .none kV doc pm an ju ct):=⟨⟨oc,od,kV,doc,pm,an,ju,ct,JA,rfl,l,c⟩,k⟩
end
theorem iT{A:Around}{k:Nat}(hr:kD k A):A.units+1<cLine:=aby (Nat.add_le_add_left (by decide:1<=64) _) hr.units
section
variable{X:Cx}
theorem pv(i:Nat){x:Str}{pos:Pos}(hN:X.N[i]?=some x:=by rfl)(hv:Xg X.env.scope x:=by first|exact Or.inl rfl|exact Or.inr (Or.inl rfl)|exact Or.inr (Or.inr rfl))(hd:(x ==("__debug__":Str))=false:=by decide)
 (Cn:(x ==("__classdict__":Str))=false:=by decide):PE X (.Name x pos) (SY i):=PB hN hv hd Cn
end
theorem jg{A B:Prop}(h:B):if false=true then A else B:=by
 rw[aav aaw]
 exact h
theorem lK{A B:Prop}(h:A):if true=true then A else B:=by
 rw[aax rfl]
 exact h
theorem kZ{c A B:Prop}[Decidable c](h1:c->A)(h2:¬c->B):if c then A else B:=by
 by_cases h:c
 ·rw[aax h]
  exact h1 h
 ·rw[aav h]
  exact h2 h
def gh(H H':Hp):Prop:=∀b o,H b=some o->H' b=some o
theorem gh.refl(H:Hp):gh H H:=λ_ _ h=>h
theorem gh.trans{H H1 H2:Hp}(a:gh H H1)(b:gh H1 H2):gh H H2:=λc o h=>b c o (a c o h)
theorem gh.free{H H':Hp}(e:gh H H'){l:Addr}(h:H' l=Option.none):H l=Option.none:=by
 cases q:H l with
 | none=>rfl
 | some o=>
  rw[e l o q] at h
  cases h
section
variable{Z:Type}[DecidableEq Z]
theorem wH{p:Z×V}{r:List (Z×V)}{k:Z}(e:p.1=k):jV (p::r) k=jV r k:=by
 unfold jV
 rw[ab8,aav (by simp[e])]
theorem wI{p:Z×V}{r:List (Z×V)}{k:Z}(e:¬p.1=k):jV (p::r) k=p::jV r k:=by
 unfold jV
 rw[ab8,aax (by simp[e])]
end
section
variable{prog:Program}{w:World}{A:Around}{R:Result->Shared->Prop}{s:Shared}
abbrev MS:Qqq:=λ_ _=>False
theorem CB{elt target iter:Expr}{ifs:List Expr}{scope:Scope}{pos:Pos}{it acc:Value}{env:Env}(I:Nat->Shared->Prop)
  (turn:∀n s,I n s->wpAny (model prog w) A (pyNext it) (λr s1=>match r with
   | none=>R (.ok .next) s1
   | some v=>wpAny (model prog w) A (letOwnedTupleGo target it v) (λ_ s1'=>wpAny (model prog w) A (assign target env v) (λ_ s2=>
    wpAny (model prog w) A (forIn ifs true λc r=>if r=true then do let ok <-isTrue c env (eval c env);pure (ForInStep.yield ok) else pure (ForInStep.yield r)) (λok s3=>
     if ok=true then wpAny (model prog w) A (eval elt env) (λx s4=>wpAny (model prog w) A (call (.builtin "list.append") [acc,x]) (λ_ s5=>∃m,m<n/\I m s5) MS s4) MS s3
     else ∃m,m<n/\I m s3) MS s2) MS s1') MS s1) MS s)
  (n:Nat) (h:I n s):codeAny (model prog w) A (.compLoop (.ListComp elt [⟨target,iter,ifs,0⟩] scope pos) 0 it acc env) R s:=by
 refine codeAny_loop rfl I (λn s hI=>?_) n h
 show wpAny _ A ((compTurn (.ListComp elt [⟨target,iter,ifs,0⟩] scope pos) 0 it acc env).onRaise (λx=>do noteFrame x env;theTreesLotGoes x)) _ _ s
 refine wpAny_noted ?_
 rw[compTurn_list]
 refine UU (wpAny_standAt (UU (abJ (turn n s hI) (λr s1 h1=>?_) λ_ _ h'=>h'.elim)))
 cases r with
 | none=>exact aay h1
 | some v=>
  refine UU (abJ h1 (λ_ s1' NZ=>?_) λ_ _ h'=>h'.elim)
  refine UU (abJ NZ (λ_ s2 h2=>UU (abJ h2 (λok s3 h3=>?_) λ_ _ h'=>h'.elim)) λ_ _ h'=>h'.elim)
  cases ok with
  | false=>exact aay ⟨rfl,h3⟩
  | true=>
   exact UU (UU (abJ h3 (λx s4 h4=>UU (abJ h4 (λ_ s5 h5=>aay (aay ⟨rfl,h5⟩)) λ_ _ h'=>h'.elim)) λ_ _ h'=>h'.elim))
end
noncomputable def jw(cells:List (Str×Addr)):List (Str×NameKind)->List (Str×Addr)->List (Str×Addr)
 | [],cs=>cs
 | (n,k)::r,cs=>jw cells r (if k ==.free then(n,(cells.lookup n).getD 0)::cs else cs)
theorem BM{cells:List (Str×Addr)}:∀{names:List (Str×NameKind)} {cs:List (Str×Addr)} {x:Str} {c:Addr},(∀y∈names,y.2=.free->∃c,cells.lookup y.1=some c)->
  (jw cells names cs).lookup x=some c->cs.lookup x=some c\/cells.lookup x=some c
 | [],_,_,_,_,h=>.inl h
 | (n,k)::r,cs,x,c,hf,h=>by
  rcases BM (λy hy=>hf y (aal _ hy)) (show(jw cells r (if k ==.free then(n,(cells.lookup n).getD 0)::cs else cs)).lookup x=some c from h) with q|q
  ·by_cases hk:(k ==NameKind.free)=true
   ·rw[aax hk] at q
    by_cases hx:(x ==n)=true
    ·rw[acj,hx] at q
     obtain⟨c',e⟩:=hf (n,k) aaC (eq_of_beq hk)
     have e:cells.lookup n=some c':=e
     rw[e] at q
     have q:some c'=some c:=q
     rw[eq_of_beq hx,e,q]
     exact .inr rfl
    ·rw[acj,ab2.mpr hx] at q
     exact .inl q
   ·rw[aav hk] at q
    exact .inl q
  ·exact .inr q
theorem zB{cells:List (Str×Addr)}:∀{names:List (Str×NameKind)} {cs:List (Str×Addr)} {x:Str},(∃c,cs.lookup x=some c)->∃c,(jw cells names cs).lookup x=some c
 | [],_,_,h=>h
 | (n,k)::r,cs,x,h=>by
  refine zB (names:=r) ?_
  by_cases hk:(k ==NameKind.free)=true
  ·rw[aax hk,acj]
   cases x ==n with
   | true=>exact⟨_,rfl⟩
   | false=>exact h
  ·rw[aav hk];exact h
theorem wJ{cells:List (Str×Addr)}:∀{names:List (Str×NameKind)} {cs:List (Str×Addr)} {x:Str},(x,NameKind.free)∈names->∃c,(jw cells names cs).lookup x=some c
 | [],_,_,h=>nomatch h
 | (n,k)::r,cs,x,h=>by
  rcases aag.mp h with e|h2
  ·cases e
   refine zB (names:=r) ⟨(cells.lookup n).getD 0,?_⟩
   rw[aax (by rfl),acj,beq_self_eq_true]
  ·exact wJ (names:=r) h2
theorem tR{scope:Scope}{env:Env}(hf:∀y∈scope.names,y.2=.free->∃c,env.cells.lookup y.1=some c):closureFor scope env=pure (jw env.cells scope.names []):=by
 have key:∀(names:List (Str×NameKind))(cs:List (Str×Addr)),(∀y∈names,y.2=.free->∃c,env.cells.lookup y.1=some c)->
   (forIn names cs λ(x:Str×NameKind) (r:List (Str×Addr))=>(match x with
    | (name,kind)=>if(kind ==NameKind.free)=true then(do let a <-cellOf env name;pure (ForInStep.yield ((name,a)::r))) else pure (ForInStep.yield r):Sem (ForInStep (List (Str×Addr)))))=(pure (jw env.cells names cs):Sem (List (Str×Addr))):=by
  intro names
  induction names with
  | nil=>intro cs _;rfl
  | cons y r ih=>
   intro cs h
   obtain⟨n,k⟩:=y
   rw[List.forIn_cons]
   by_cases hk:(k ==NameKind.free)=true
   ·obtain⟨c,e⟩:=h (n,k) aaC (eq_of_beq hk)
    have e:env.cells.lookup n=some c:=e
    have ec:cellOf env n=pure c:=by unfold cellOf;rw[e]
    simp only [hk,if_true,ec,pure_bind]
    rw[ih _ λy hy=>h y (aal _ hy)]
    simp only [jw,hk,if_true,e,Option.getD_some]
   ·simp only [hk,aca,pure_bind,aa9]
    rw[ih _ λy hy=>h y (aal _ hy)]
    simp only [jw,hk,aca,aa9]
 have q:=key scope.names [] hf
 simp only [closureFor]
 first
  | (rw[q];rfl)
  | (simp only [q,pure_bind])
  | exact(abd (λt=>t >>= pure) q).trans (pure_bind _ _)
theorem qZ{f:Str->NameKind->NameKind}:∀{names:List (Str×NameKind)} {x:Str},(names.map λy=>(y.1,f y.1 y.2)).lookup x=(names.lookup x).map (f x)
 | [],_=>rfl
 | (n,k)::r,x=>by
  show List.lookup x ((n,f n k)::_)=_
  rw[acj,acj]
  cases h:x ==n with
  | true=>rw[eq_of_beq h];rfl
  | false=>exact qZ (names:=r)
theorem lL{scope:Scope}{env:Env}{x:Str}:(relabel scope env).names.lookup x=(scope.names.lookup x).map λk=>if(k ==.free&&env.scope.kind ==.function&&env.kindOf x ==some .cell)=true then .cell else k:=by
 have e:(relabel scope env).names=scope.names.map λy=>(y.1,(λ(n:Str) (k:NameKind)=>if(k ==.free&&env.scope.kind ==.function&&env.kindOf n ==some .cell)=true then NameKind.cell else k) y.1 y.2):=by
  show(scope.names.map _)=_
  refine ab5 λy _=>?_
  obtain⟨n,k⟩:=y
  show(if(k ==.free&&env.scope.kind ==.function&&env.kindOf n ==some .cell)=true then(n,NameKind.cell) else(n,k))=(n,if(k ==.free&&env.scope.kind ==.function&&env.kindOf n ==some .cell)=true then NameKind.cell else k)
  split<;>rfl
 rw[e]
 exact qZ (f:=λ(n:Str) (k:NameKind)=>if(k ==.free&&env.scope.kind ==.function&&env.kindOf n ==some .cell)=true then NameKind.cell else k)
noncomputable def blank:List Nat->St->St
 | [],Z=>Z
 | i::r,Z=>blank r (Z.set i none)
theorem BN:∀{is:List Nat} {Z:St},(blank is Z).length=Z.length
 | [],_=>rfl
 | i::r,Z=>by
  show(blank r (Z.set i none)).length=_
  rw[BN,acq]
theorem CC{Z:St}{i j:Nat}{v:V}(h:(Z.set i none)[j]?=some (some v)):Z[j]?=some (some v)/\j≠i:=by
 by_cases e:j=i
 ·subst e
  by_cases hl:j<Z.length
  ·rw[abz hl] at h;cases h
  ·rw[List.getElem?_eq_none_iff.mpr (by rw[acq];omega)] at h;cases h
 ·rw[abI (ab0 e)] at h
  exact⟨h,e⟩
theorem BO:∀{is:List Nat} {Z:St} {j:Nat} {v:V},(blank is Z)[j]?=some (some v)->Z[j]?=some (some v)/\j∉is
 | [],_,_,_,h=>⟨h,by simp⟩
 | i::r,Z,j,v,h=>by
  obtain⟨h1,h2⟩:=BO (is:=r) (Z:=Z.set i none) h
  obtain⟨h3,h4⟩:=CC h1
  exact⟨h3,λm=>(aag.mp m).elim h4 h2⟩
noncomputable def Iy(N:List Str)(out:List (Str×NameKind))(is:List Nat)(names:List (Str×NameKind)):Bool:=
 (names.all λy=>y.2 != .cell&&(y.2 != .free||out.lookup y.1 ==some .cell||out.lookup y.1 ==some .free)&&(y.2 != .local||names.lookup y.1 ==some .local))&&
 (N.zipIdx.all λp=>names.lookup p.1 != some .local||is.contains p.2)
structure CD(N:List Str)(out:List (Str×NameKind))(is:List Nat)(names:List (Str×NameKind)):Prop where
 Gn:∀y∈names,y.2≠.cell
 free:∀y∈names,y.2=.free->out.lookup y.1=some .cell\/out.lookup y.1=some .free
 loc:∀y∈names,y.2=.local->names.lookup y.1=some .local
 own:∀(i:Nat)(x:Str),N[i]?=some x->names.lookup x=some .local->i∈is
theorem CD.of{N:List Str}{out:List (Str×NameKind)}{is:List Nat}{names:List (Str×NameKind)}(h:Iy N out is names=true):CD N out is names:=by
 unfold Iy at h
 rw[abm] at h
 obtain⟨h1,h2⟩:=h
 have a:=abC.mp h1
 have b:=abC.mp h2
 refine⟨λy hy e=>?_,λy hy e=>?_,λy hy e=>?_,λi x hi e=>?_⟩
 ·have q:=a y hy
  rw[e] at q
  simp at q
 ·have q:=a y hy
  simp only [e,abm,acH,acA,aa9,false_or,acn] at q
  rcases q.1.2 with z|z
  ·exact .inl z
  ·exact .inr z
 ·have q:=a y hy
  simp only [e,abm,acH,acA,aa9,false_or,acn] at q
  exact q.2
 ·have hm:(x,i)∈N.zipIdx:=by
   rw[aaT]
   exact⟨i,by rw[List.getElem?_zipIdx,hi];simp⟩
  have q:=b (x,i) hm
  simp only [e,acH,acA,aa9,false_or] at q
  exact List.contains_iff_mem.mp q
noncomputable def Cx.block(X:Cx)(scope:Scope)(cl:List (Str×Addr))(C:Addr)(s:Shared)(H:Hp)(ex:List Addr):Cx:=
 {X with env:=compEnvC scope cl C X.env,s₀:=s,H₀:=H,outer:=X.stack,ex:=ex,fn:=λ_=>false,pn:=[],xe:=MS}
section
variable{X:Cx}{c_:Qqz}{Z:St}{H:Hp}{s:Shared}{scope:Scope}{is:List Nat}{ex:List Addr}{C:Addr}
theorem zC(I:Inv X c_ Z H s)(hs:CD X.N X.env.scope.names is scope.names):∀y∈scope.names,y.2=.free->∃c,X.env.cells.lookup y.1=some c:=λy hy e=>I.ok.has y.1 (hs.free y hy e)
theorem mF(I:Inv X c_ Z H s)(hs:CD X.N X.env.scope.names is scope.names){x:Str}{c:Addr}(h:(jw X.env.cells scope.names []).lookup x=some c):X.env.cells.lookup x=some c:=
 (BM (zC I hs) h).resolve_left λz=>nomatch z
theorem J3(I:Inv X c_ Z H s)(hs:CD X.N X.env.scope.names is scope.names)(hk:scope.kind=.function)(hC:s.heap.objs.size<=C)(hf:∀b∈ex,uj X c_ H b)(ho:∀b∈ex,∃o,s.heap.get? b=some o) :
  (X.block scope (jw X.env.cells scope.names []) C s H ex).Ok where
 mod:=I.ok.mod
 kind:=hk
 glob:=I.ok.glob
 blt:=I.ok.blt
 above:=hC
 inj:=λx y c h1 h2=>I.ok.inj x y c (mF I hs h1) (mF I hs h2)
 has:=λx hx=>by
  have hx:(relabel scope X.env).names.lookup x=some .cell\/(relabel scope X.env).names.lookup x=some .free:=hx
  rw[lL] at hx
  cases e:scope.names.lookup x with
  | none=>
   rw[e] at hx
   rcases hx with z|z<;>cases z
  | some k=>
   have hm:(x,k)∈scope.names:=abO e
   have hk:k=.free:=by
    rw[e] at hx
    cases k with
    | free=>rfl
    | cell=>exact absurd rfl (hs.Gn _ hm)
    | _=>rcases hx with z|z<;>simp at z
   subst hk
   exact wJ hm
 R0:=λ_ _ h=>Bool.noConfusion h
 hd:=I.ok.hd
 frames:=I.ok.frames
 SV:=.inl rfl
 Xh:=λb hb=>by
  obtain⟨o,e⟩:=ho b hb
  exact⟨aa0 (aaR (aaJ e) hC),λx c h=>(hf b hb).2.2.2.2.1 x c (mF I hs h)⟩
 bs:=I.bs
 MB:=aam I.ok.MB I.sz
 tK:=λb o e hb=>by
  rcases(hf b hb).2.2.2.1 with z|z
  ·exact I.ok.tK b o e z
  ·exact absurd (aaR (aaJ (I.ok.bs b o e).1) z) (abu _)
 JF:=λb hb hm=>by
  rcases aag.mp (I.wz b hm) with z|z
  ·exact(hf b hb).2.1 z
  ·exact(hf b hb).2.2.1 z
 uR:=I.stack
 Ot:=I.Cr
theorem Iz{h':Heap}{t':Nat}{pl:Qqz}(I:Inv X c_ Z H s)(hs:CD X.N X.env.scope.names is scope.names)(hk:scope.kind=.function)(hC:s.heap.objs.size<=C)(hf:∀b∈ex,uj X c_ H b)(ho:∀b∈ex,∃o,s.heap.get? b=some o)
  (old:∀b o,s.heap.get? b=some o->h'.get? b=some o) {m:Qqx} (hn:h'.Ns C m)
  (hp:∀p∈pl,h'.get? p.1=some p.2/\s.heap.objs.size<=p.1/\p.1≠C/\∀v,p.2.data≠.cell v) :
  Inv (X.block scope (jw X.env.cells scope.names []) C s H ex) pl (blank is Z) H {s with heap:=h',toks:=t'} where
 ok:=J3 I hs hk hC hf ho
 os:=rfl
 bare:=I.bare
 base:=Un.kept old
 loc:=⟨m,hn,λi x v h1 h2 h3=>by
  have h3:(relabel scope X.env).names.lookup x=some .local\/(relabel scope X.env).names.lookup x=some .cell\/(relabel scope X.env).names.lookup x=some .free:=h3
  obtain⟨h2,hi⟩:=BO h2
  have h1:X.N[i]?=some x:=h1
  cases e:scope.names.lookup x with
  | none=>
   rw[lL,e] at h3
   rcases h3 with z|z|z<;>cases z
  | some k=>
   have hm:(x,k)∈scope.names:=abO e
   have hk:k=.free:=by
    rw[lL,e] at h3
    cases k with
    | free=>rfl
    | cell=>exact absurd rfl (hs.Gn _ hm)
    | «local»=>exact absurd (hs.own i x h1 e) hi
    | _=>rcases h3 with z|z|z<;>simp at z
   subst hk
   have hv:X.env.scope.names.lookup x=some .cell\/X.env.scope.names.lookup x=some .free:=hs.free _ hm rfl
   obtain⟨m0,_,hl⟩:=I.loc
   obtain⟨u,r,q⟩:=hl i x v h1 h2 (.inr hv)
   refine⟨u,r,.inr ⟨?_,?_⟩⟩
   ·show(relabel scope X.env).names.lookup x=some .cell\/(relabel scope X.env).names.lookup x=some .free
    rw[lL,e]
    show some (if _ then NameKind.cell else NameKind.free)=_\/some (if _ then NameKind.cell else NameKind.free)=_
    split
    ·exact .inl rfl
    ·exact .inr rfl
   ·rcases q with⟨z,_⟩|⟨_,c,ec,cc⟩
    ·have z:X.env.scope.names.lookup x=some .local:=z
     rcases hv with hv|hv<;>rw[hv] at z<;>cases z
    ·obtain⟨c',e'⟩:=wJ (cells:=X.env.cells) (cs:=[]) hm
     have e2:=mF I hs e'
     rw[ec] at e2
     cases e2
     obtain⟨o,ho,hd⟩:=cc
     exact⟨c,e',o,old _ _ ho,hd⟩⟩
 cell:=λx c h=>by
  obtain⟨v,o,ho,hd⟩:=I.cell x c (mF I hs h)
  exact⟨v,o,old _ _ ho,hd⟩
 free:=I.iK.fresh hC
 pz:=λx c h=>I.pz x c (mF I hs h)
 pin:=λp Si=>by
  obtain⟨h1,h2,h3,h4⟩:=hp p (by simpa[Cx.block] using Si)
  refine⟨h1,I.iK.fresh h2,h3,λhm=>?_,h4⟩
  rcases aag.mp (I.wz p.1 hm) with z|z
  ·exact absurd (aaR I.lt (by rw[<-z];exact h2)) (abu _)
  ·exact I.SW h2 z
 iK:=I.iK.kept old
 len:=by rw[BN];exact I.len
end
theorem kO{X:Cx}{scope:Scope}{cl:List (Str×Addr)}{C:Addr}{s:Shared}{H:Hp}{ex:List Addr}:(X.block scope cl C s H ex).K=X.K:=rfl
theorem PE.eqv{X:Cx}{e:Expr}{t t':TE}(h:PE X e t')(q:t'=t):PE X e t:=q▸h
def Qf(X:Cx)(ifs:List Expr)(t:TT):Prop:=
 ∀(c_:Qqz)(s:Shared)(Z:St)(H:Hp)(Q:Bool->Hp->Prop),Inv X c_ Z H s->t Z H Q->
  wpAny (model X.prog X.w) X.A (forIn ifs true λc r=>if r=true then do let ok <-isTrue c X.env (eval c X.env);pure (ForInStep.yield ok) else pure (ForInStep.yield r)) (TP X c_ Z Q) X.xe s
def XO:TT:=λ_ H Q=>Q true H
theorem lM{X:Cx}:Qf X [] XO:=λ_ _ _ H _ I h=>wpAny_tests_nil ⟨H,I,h⟩
theorem nM{X:Cx}{c:Expr}{t:TT}(h:PT X c t):Qf X [c] t:=λc_ s Z H Q I hw=>wpAny_tests_one (h c_ s Z H Q I hw)
def IA(g:TG)(tt:TT)(te:TE)(J:It)(Q:List V->Hp->Prop)(Z:St)(H:Hp):Prop:=
 ∃W:Nat->Nat->List V->St->Hp->Prop,(∃m,W 0 m [] Z H)/\∀i m ys Z H,W i m ys Z H->
  (J.stop i H/\ys.length<=sizeLine/\Q ys H)\/
  (J.go i H/\ys.length<=sizeLine/\∃N:List V->St->Hp->Prop,(∀Sj Z' H',N Sj Z' H'->∃m',m'<m/\W (i+1) m' Sj Z' H')/\
   ∀x H',J.JJ i H x H'->g x Z H' λZ2 H2=>tt Z2 H2 λb H3=>if b=true then te Z2 H3 λv H4=>N (ys++[v]) Z2 H4 else N ys Z2 H3)
def Wd(is:List Nat)(wi:TI)(g:TG)(tt:TT)(te:TE):TE:=λZ H Q=>wi Z H λJ H1=>IA g tt te J (λys H2=>∀p,H2 p=none->Q (.ref p) (upd H2 p (.lst ys))) (blank is Z) H1
section
variable{P:Program}{w:World}
theorem rq.Tu{H:Hp}{h:Heap}{a:Addr}{o:HO}(x:rq P w H h)(hn:H a=none)(new:i0 P w (upd H a o) h a o):rq P w (upd H a o) h:=λb u q=>by
 by_cases hb:b=a
 ·subst hb;rw[b_] at q;cases q;exact new
 ·rw[d_ hb] at q
  exact(x b u q).zq (λ_ _ _ r=>r) (λc r=>by rw[d_ (gg r hn)];exact r) λc xs r=>by rw[d_ (gg r hn)];exact r
end
noncomputable abbrev CF(ys:List Value)(n:Nat):Obj:={cls:=.type "list",data:=.seq ys.toArray n}
section
variable{X:Cx}{c_:Qqz}{Z:St}{H:Hp}{s:Shared}{scope:Scope}{is:List Nat}
theorem BP{E:Qqq}{elt tg iter:Expr}{ifs:List Expr}{pos:Pos}{it:Addr}{fp:List Addr}{tn:Nat->Heap->Prop}{J:It}{g:TG}{tt:TT}{te:TE}{Fin:List V->Hp->Prop}{RR:Value->Addr->Result->Shared->Prop}
  (I:Inv X c_ Z H s) (hc:X.calm=true) (hs:CD X.N X.env.scope.names is scope.names) (hk:scope.kind=.function)
  (hg:∀C s H ex,PG (X.block scope (jw X.env.cells scope.names []) C s H ex) tg g) (ht:∀C s H ex,Qf (X.block scope (jw X.env.cells scope.names []) C s H ex) ifs tt)
  (he:∀C s H ex,PE (X.block scope (jw X.env.cells scope.names []) C s H ex) elt te)
  (T:Turn X.prog X.w X.K tg J fp it tn) (st:tn 0 s.heap) (hf:∀b∈fp,uj X c_ H b) (h:IA g tt te J Fin (blank is Z) H)
  (hRR:∀(D C:Addr)(ys:List V)(hE:List Value)(n:Nat)(H':Hp)(s':Shared)(m:Qqx),s.heap.objs.size<=D->s.heap.objs.size<=C->D≠C->s'.heap.Ns C m->s'.heap.get? D=some (CF hE n)->Vals ys hE->ys.length<=sizeLine->
   H' D=none->H' C=none->s'.os=s.os->AllBare s'.gens->Un (uh X.stack) fp H H' s.heap s'.heap->rq X.prog X.w H' s'.heap->Fin ys H'->RR (.ref D) C (.ok .next) s') :
  wpAny (model X.prog X.w) X.A (newList []) (λacc s3=>wpAny (model X.prog X.w) X.A (newFunctionEnv scope X.env.globals (jw X.env.cells scope.names []) [] X.env.qual none .none (some X.env)) (λUA s4=>
   codeAny (model X.prog X.w) X.A (.compStart (.ListComp elt [⟨tg,iter,ifs,0⟩] scope pos) 0 (.ref it) acc {UA with scope:=relabel scope X.env}) (RR acc UA.locals) s4) E s3) E s:=by
 refine wpAny_newObj_type (wpAny_newFunctionEnv hs.Gn (by intro y hy;simp at hy) (λh1 Rj N0=>?_) hk)
 dsimp only at Rj N0 ⊢
 generalize Yy:s.heap.push {cls:=.type "list",dict:=none,data:=.seq ([]:List Value).toArray}=H2 at Rj N0 ⊢
 have hC:H2.objs.size=s.heap.objs.size+1:=by rw[<-Yy,Heap.size_push]
 have N1:s.heap.objs.size≠H2.objs.size:=by rw[hC];exact aa0 (acC _)
 have UB:s.heap.objs.size<=H2.objs.size:=by rw[hC];exact Nat.le_succ _
 have below:∀b,b<s.heap.objs.size->b≠H2.objs.size/\b≠s.heap.objs.size:=λb hb=>⟨by rw[hC];exact aa0 (Nat.lt_succ_of_lt hb),aa0 hb⟩
 have old:∀b o,s.heap.get? b=some o->h1.get? b=some o:=λb o e=>N0.extBut b o (below b (aaJ e)).1 (aaB _ (Yy▸aaB _ e))
 have AI:h1.get? s.heap.objs.size=some (CF [] 0):=N0.extBut _ _ N1 (aaB _ (Yy▸aaN _ rfl))
 have Yz:∀b∈fp,∃o,s.heap.get? b=some o:=λb hb=>let ⟨o,e,_⟩:=T.obj 0 _ st b hb;⟨o,e⟩
 have hfD:∀b∈fp,b≠s.heap.objs.size:=λb hb=>let ⟨o,e⟩:=Yz b hb;(below b (aaJ e)).2
 have hfC:∀b∈fp,b≠H2.objs.size:=λb hb=>let ⟨o,e⟩:=Yz b hb;(below b (aaJ e)).1
 generalize hD:s.heap.objs.size=D at *
 generalize hCC:H2.objs.size=C at *
 have UC:∀x c,(jw X.env.cells scope.names []).lookup x=some c->c≠D:=λx c e z=>by
  obtain⟨v,q⟩:=I.cell x c (mF I hs e)
  exact absurd q.lt (by rw[z,hD];exact abu _)
 let XB:=X.block scope (jw X.env.cells scope.names []) C s H fp
 have I1:Inv XB [(D,CF [] 0)] (blank is Z) H {s with heap:=h1,toks:=s.toks+([]:List (Str×Value)).length}:=
  Iz I hs hk (by rw[hD];exact UB) hf Yz old Rj λp hp=>by
   rw[XS.mp hp]
   exact⟨AI,Nat.le_of_eq hD,N1,λv z=>nomatch z⟩
 have YA:∀{pl:Qqz} {H':Hp},(∀p∈pl,p.1=D)->(∀b∈fp,H' b=none)->∀b∈fp,uj XB pl H' b:=λ{pl H'} nJ hn b hb=>
  ⟨hn b hb,hfC b hb,λhm=>by
   rcases aag.mp (I.wz b hm) with z|z
   ·exact(hf b hb).2.1 z
   ·exact(hf b hb).2.2.1 z,.inl hb,λx c e=>(hf b hb).2.2.2.2.1 x c (mF I hs e),λp hp=>by
   have hp:p∈pl:=by simpa[XB,Cx.block] using hp
   rw[nJ p hp]
   exact ab0 (hfD b hb)⟩
 obtain⟨W,⟨m0,w0⟩,turn⟩:=h
 have Jr:tn 0 h1:=T.keep _ _ _ st λb _ o e=>old b o e
 have loop:codeAny (model X.prog X.w) X.A (.compLoop (.ListComp elt [⟨tg,iter,ifs,0⟩] scope pos) 0 (.ref it) (.ref D) (compEnvC scope (jw X.env.cells scope.names []) C X.env)) (RR (.ref D) C) {s with heap:=h1,toks:=s.toks+([]:List (Str×Value)).length}:=by
  refine CB (λk s'=>∃i ys hE n Z' H',Inv XB [(D,CF hE n)] Z' H' s'/\Vals ys hE/\tn i s'.heap/\(∀b∈fp,H' b=none)/\W i k ys Z' H') ?_ m0 ⟨0,[],[],0,_,_,I1,.nil,Jr,λb hb=>(hf b hb).1,w0⟩
  rintro k s3 ⟨i,ys,hE,n,Z3,H3,I3,vs,rC,Ut,w3⟩
  have nJ:∀p∈[(D,CF hE n)],p.1=D:=λp hp=>by rw[XS.mp hp]
  rcases turn i k ys Z3 H3 w3 with⟨stop,hz,qn⟩|⟨go,hz,N,hN,step⟩
  ·refine i3 (T.done XB rfl rfl rfl hc i _ s3 Z3 H3 MS I3 (YA nJ Ut) rC stop) λr s4 iH=>?_
   obtain⟨hr,I4⟩:=iH
   subst hr
   obtain⟨m',Sg,_⟩:=I4.loc
   have pD:=I4.pin (D,CF hE n) (by simp[XB,Cx.block])
   exact hRR D C ys hE n H3 s4 m' (XU _) UB N1 Sg pD.1 vs hz pD.2.1 I4.free I4.os I4.bare I4.base I4.iK qn
  ·refine i3 (T.item XB rfl rfl rfl hc i _ s3 Z3 H3 MS I3 (YA nJ Ut) rC go) λr s4 iH=>?_
   obtain⟨u,hr,h4⟩:=iH
   subst hr
   refine i3 h4 λ_ s5 iH=>?_
   obtain⟨x,H5,I5,r5,y5,Rb,Yn⟩:=iH
   have Yo:=I5.pinned (YA nJ Yn) (T.obj _ _ Rb)
   refine i3 (hg C s H fp _ s5 Z3 H5 x u _ Yo r5 (step x H5 y5)) λ_ s6 iH=>?_
   obtain⟨Z6,H6,I6,q6⟩:=iH
   have Co:∀{Z7:St} {H7:Hp} {s7:Shared},Inv XB ([(D,CF hE n)]++zu fp s5.heap) Z7 H7 s7->tn (i+1) s7.heap/\∀b∈fp,H7 b=none:=λ{Z7 H7 s7} I7=>
    ⟨T.keep _ _ _ Rb λb hb o e=>(I7.pin (b,o) (aaW _ (aaW _ (qi hb e)))).1,λb hb=>by
     obtain⟨o,e,d⟩:=T.obj _ _ Rb b hb
     exact(I7.pin (b,o) (aaW _ (aaW _ (qi hb e)))).2.1⟩
   refine i3 (ht C s H fp _ s6 Z6 H6 _ I6 q6) λok s7 iH=>?_
   obtain⟨H7,I7,q7⟩:=iH
   cases ok with
   | false=>
    rw[aav aaw] at q7 ⊢
    obtain⟨m',hm,w7⟩:=hN _ _ _ q7
    exact⟨m',hm,i+1,ys,hE,n,Z6,H7,I7.uU,vs,(Co I7).1,(Co I7).2,w7⟩
   | true=>
    rw[aax rfl] at q7 ⊢
    refine i3 (he C s H fp _ s7 Z6 H7 _ I7 q7) λy s8 iH=>?_
    obtain⟨v,H8,I8,r8,n8⟩:=iH
    obtain⟨m',hm,w8⟩:=hN _ _ _ n8
    obtain⟨st8,fr8⟩:=Co I8
    have pD:=I8.pin (D,CF hE n) (by simp)
    have hl:=vs.length
    refine append_at (hsz:=by show hE.toArray.size<=sizeLine;rw[aaz,<-hl];exact hz) pD.1 λh9 sb9 e9=>?_
    have I9:Inv XB [] Z6 H8 {s8 with heap:=h9}:=by
     have J8:Inv XB [] Z6 H8 s8:=I8.y9 λp hp=>nomatch hp
     exact J8.turned (t':=s8.toks) (it:=D) (λb o hb e=>sb9.extBut b o hb e) pD.2.1 N1 (.inr (Nat.le_of_eq hD)) (λx c e=>UC x c e) λp hp=>by simp[XB,Cx.block] at hp
    refine⟨m',hm,i+1,ys++[v],hE++[y],n+1,Z6,H8,I9.y9 λp hp=>?_,vs.append (.cons r8 .nil),T.keep _ _ _ st8 λb hb o e=>sb9.extBut b o (hfD b hb) e,fr8,w8⟩
    rw[XS.mp hp]
    refine⟨?_,pD.2.1,N1,λhm=>?_,λv z=>nomatch z⟩
    ·rw[e9]
     show some _=some _
     rw[List.push_toArray]
    ·exact pD.2.2.2.1 hm
 exact codeAny_compStart_list loop (T.self _ 0 _ _ _ Jr loop)
variable{elt tg iter:Expr}{ifs:List Expr}{pos LP py:Pos}{wi:TI}{g:TG}{tt:TT}{te:TE}
theorem xU{D:Addr}{ys:List V}{hE:List Value}{n:Nat}{H':Hp}{s':Shared}{fp:List Addr}(I:Inv X c_ Z H s)(hf:∀b∈fp,uj X c_ H b)(hD:s.heap.objs.size<=D)(e:s'.heap.get? D=some (CF hE n))(vs:Vals ys hE)(hz:ys.length<=sizeLine)
  (nD:H' D=none) (os:s'.os=s.os) (bare:AllBare s'.gens) (un:Un (uh X.stack) fp H H' s.heap s'.heap) (iK:rq X.prog X.w H' s'.heap):Inv X c_ Z (upd H' D (.lst ys)) s':=by
 have neD:∀b o,s.heap.get? b=some o->b≠D:=λb o q=>aa0 (aaR (aaJ q) hD)
 refine I.SX (ch:=fp) os ⟨un.keep,un.slot,λb o q nn hx=>by rw[d_ (neD b o q)];exact un.free b o q nn hx,un.there,λb xs q=>?_,λb o u q=>?_,λb ps q=>?_⟩ (iK.Tu nD ⟨hz,hE,n,vs,e⟩) bare λb hb=>?_
 ·have q':=un.qh b xs q
  rw[d_ (gg q' nD)];exact q'
 ·have q':=un.uQ b o u q
  rw[d_ (gg q' nD)];exact q'
 ·obtain⟨more,q'⟩:=un.yM b ps q
  exact⟨more,by rw[d_ (gg q' nD)];exact q'⟩
 ·obtain⟨f0,f1,f2,f3,f4,f5⟩:=hf b hb
  exact⟨f3,f1,f4,f5⟩
theorem zD{C:Addr}{h':Heap}{s0:Shared}(I:Inv X c_ Z H s)(hC:s0.heap.objs.size<=C)(nC:H C=none)(UD:Heap.SameBut C s.heap h')(I0:∃Z0 H0,Inv X c_ Z0 H0 s0):Inv X c_ Z H {s with heap:=h'}:=by
 obtain⟨Z0,H0,I0⟩:=I0
 obtain⟨_,f1,_,f3,f4,f5⟩:=I0.zr (H':=λ_=>none) hC rfl
 exact I.turned (t':=s.toks) (λb o hb e=>UD.extBut b o hb e) nC f1 f3 f4 f5
theorem tS(N:List Str)(out:List (Str×NameKind))(is:List Nat)(hc:X.calm=true)(hi:PI X tg iter wi)(hk:scope.kind=.function)(hs:Iy N out is scope.names=true)
  (hg:∀C s H ex,PG (X.block scope (jw X.env.cells scope.names []) C s H ex) tg g) (ht:∀C s H ex,Qf (X.block scope (jw X.env.cells scope.names []) C s H ex) ifs tt)
  (he:∀C s H ex,∃t,PE (X.block scope (jw X.env.cells scope.names []) C s H ex) elt t/\t=te) (wy:∀x,foldedSetIterable iter X.env x=pure x:=by intro _;rfl) (eN:X.N=N:=by rfl) (eo:X.env.scope.names=out:=by rfl) :
  PE X (.ListComp elt [⟨tg,iter,ifs,0⟩] scope pos) (Wd is wi g tt te):=by
 intro c_ s Z H Q I h
 subst eN eo
 have S:=CD.of hs
 rw[eval_ListComp]
 refine wpAny_comprehension_free (use:=none) rfl wy (tR (zC I S)) hk S.loc (i3 (hi c_ s Z H _ I h) λv s1 h1=>i3 h1 λWn s2 h2=>?_)
 obtain⟨it,fp,tn,J,H2,rfl,I2,T,Bv,f2,h2⟩:=h2
 refine BP (RR:=λacc C=>compPost (model X.prog X.w) X.A X.xe none (EP X c_ Z Q) acc C) I2 hc S hk hg ht (λC s H ex=>let ⟨_,h,e⟩:=he C s H ex;PE.eqv h e) T Bv f2 h2 ?_
 intro D C ys hE n H' s' m hD hC N1 hn e vs hz nD nC os bare un iK q
 have J1:Inv X c_ Z (upd H' D (.lst ys)) s':=xU I2 f2 hD e vs hz nD os bare un iK
 refine⟨m,hn,λh' UD=>⟨.ref D,_,zD J1 hC (by rw[d_ (ab0 N1)];exact nC) UD ⟨_,_,I2⟩,rfl,q D nD⟩⟩
theorem BQ{y:Str}{j:Nat}(N:List Str)(out:List (Str×NameKind))(is:List Nat)(hN:X.N.Nodup)(hj:X.N[j]?=some y)(hy:X.env.scope.names.lookup y=some .local)(hc:X.calm=true)(hi:PI X tg iter wi)(hk:scope.kind=.function)(hs:Iy N out is scope.names=true)
  (hg:∀C s H ex,PG (X.block scope (jw X.env.cells scope.names []) C s H ex) tg g) (ht:∀C s H ex,Qf (X.block scope (jw X.env.cells scope.names []) C s H ex) ifs tt)
  (he:∀C s H ex,∃t,PE (X.block scope (jw X.env.cells scope.names []) C s H ex) elt t/\t=te)
  (YB:swapsWith (.ListComp elt [⟨tg,iter,ifs,0⟩] scope pos) (some (.Name y py)) LP.line X.env=pure true:=by rfl) (wy:∀x,foldedSetIterable iter X.env x=pure x:=by intro _;rfl) (eN:X.N=N:=by rfl) (eo:X.env.scope.names=out:=by rfl) :
  PS X (.Assign [.Name y py] (.ListComp elt [⟨tg,iter,ifs,0⟩] scope pos) LP) (JI (Wd is wi g tt te) (l7 j)):=by
 intro c_ s Z H Dn I h
 subst eN eo
 have S:=CD.of hs
 rw[exec_Assign_Name_used _ _ _ _ YB]
 refine UU (wpAny_standAt (UU ?_))
 show wpAny _ _ (do let _ <-comprehension (.ListComp elt [⟨tg,iter,ifs,0⟩] scope pos) scope X.env _ (newList []) false (eval iter X.env) (some (assign (.Name y py) X.env))) _ _ s
 refine UU (abJ (wpAny_comprehension_free (use:=some (assign (.Name y py) X.env)) (Q:=λ_ s'=>SP X c_ Dn .next s') rfl wy (tR (zC I S)) hk S.loc
  (i3 (hi c_ s Z H _ I h) λv s1 h1=>i3 h1 λWn s2 h2=>?_)) (λ_ s' hq=>aay (aay hq)) λ_ _ e=>e)
 obtain⟨it,fp,tn,J,H2,rfl,I2,T,Bv,f2,h2⟩:=h2
 refine BP (RR:=λacc C=>compPost (model X.prog X.w) X.A X.xe (some (assign (.Name y py) X.env)) (λ_ s'=>SP X c_ Dn .next s') acc C) I2 hc S hk hg ht (λC s H ex=>let ⟨_,h,e⟩:=he C s H ex;PE.eqv h e) T Bv f2 h2 ?_
 intro D C ys hE n H' s' m hD hC N1 hn e vs hz nD nC os bare un iK q
 have J1:Inv X c_ Z (upd H' D (.lst ys)) s':=xU I2 f2 hD e vs hz nD os bare un iK
 show wpAny _ _ (assign (.Name y py) X.env (.ref D)) _ _ _
 refine wpAny_assign_Name (BC J1 hN hj (.inl hy) (v:=.ref D) rfl (λs5 J5 iH=>?_) (.inr hy))
 obtain⟨a,sb,ha⟩:=iH
 have hCa:C≠a:=by
  obtain⟨_,f1,_,f3,f4,f5⟩:=I2.zr (H':=λ_=>none) hC rfl
  rcases ha with z|z
  ·rw[z];exact f1
  ·exact λq=>f4 _ _ z q.symm
 exact⟨m,hn.sameBut sb hCa,λh' UD=>⟨_,_,zD J5 hC (by rw[d_ (ab0 N1)];exact nC) UD ⟨_,_,I2⟩,q D nD⟩⟩
end
section
variable{X:Cx}{elt tg iter:Expr}{ifs:List Expr}{scope:Scope}{pos:Pos}{wi:TI}{g:TG}{tt:TT}{te:TE}{py LP:Pos}
theorem zE(N:List Str)(out:List (Str×NameKind))(is:List Nat)(hc:X.calm=true)(hi:PI X tg iter wi)(hk:scope.kind=.function)(hs:Iy N out is scope.names=true)
 (hg:∀C s H ex,PG (X.block scope (jw X.env.cells scope.names []) C s H ex) tg g) (ht:∀C s H ex,∃t,Qf (X.block scope (jw X.env.cells scope.names []) C s H ex) ifs t/\t=tt)
 (he:∀C s H ex,∃t,PE (X.block scope (jw X.env.cells scope.names []) C s H ex) elt t/\t=te) (wy:∀x,foldedSetIterable iter X.env x=pure x:=by intro _;rfl) (eN:X.N=N:=by rfl) (eo:X.env.scope.names=out:=by rfl) :
 PE X (.ListComp elt [⟨tg,iter,ifs,0⟩] scope pos) (Wd is wi g tt te):=tS N out is hc hi hk hs hg (λC s H ex=>let ⟨_,h,e⟩:=ht C s H ex;e▸h) he wy eN eo
theorem wK{y:Str}{j:Nat}(N:List Str)(out:List (Str×NameKind))(is:List Nat)(hN:X.N.Nodup)(hj:X.N[j]?=some y)(hy:X.env.scope.names.lookup y=some .local)(hc:X.calm=true)(hi:PI X tg iter wi)(hk:scope.kind=.function)(hs:Iy N out is scope.names=true)
 (hg:∀C s H ex,PG (X.block scope (jw X.env.cells scope.names []) C s H ex) tg g) (ht:∀C s H ex,∃t,Qf (X.block scope (jw X.env.cells scope.names []) C s H ex) ifs t/\t=tt)
 (he:∀C s H ex,∃t,PE (X.block scope (jw X.env.cells scope.names []) C s H ex) elt t/\t=te)
 (YB:swapsWith (.ListComp elt [⟨tg,iter,ifs,0⟩] scope pos) (some (.Name y py)) LP.line X.env=pure true:=by rfl) (wy:∀x,foldedSetIterable iter X.env x=pure x:=by intro _;rfl) (eN:X.N=N:=by rfl) (eo:X.env.scope.names=out:=by rfl) :
 PS X (.Assign [.Name y py] (.ListComp elt [⟨tg,iter,ifs,0⟩] scope pos) LP) (JI (Wd is wi g tt te) (l7 j)):=BQ N out is hN hj hy hc hi hk hs hg (λC s H ex=>let ⟨_,h,e⟩:=ht C s H ex;e▸h) he YB wy eN eo
end
theorem rH{lo:Int}{n:Nat}{g:TG}{tt:TT}{te:TE}{Q:List V->Hp->Prop}{Z:St}{H:Hp}(hn:n<=sizeLine)(Pv:Nat->List V->St->Hp->Prop)(h0:Pv 0 [] Z H)(hlen:∀i ys Z H,Pv i ys Z H->ys.length<=i)
  (hs:∀i ys Z H,i<n->Pv i ys Z H->g (.int (lo+i)) Z H λZ2 H2=>tt Z2 H2 λb H3=>if b=true then te Z2 H3 λv H4=>Pv (i+1) (ys++[v]) Z2 H4 else Pv (i+1) ys Z2 H3)
  (hd:∀ys Z H,Pv n ys Z H->Q ys H):IA g tt te (Ou lo n) Q Z H:=by
 refine⟨λi m ys Z H=>m=n-i/\i<=n/\Pv i ys Z H,⟨n,by simp,aaY _,h0⟩,?_⟩
 rintro i m ys Z H ⟨rfl,hi,p⟩
 have hl:=hlen i ys Z H p
 by_cases j3:i<n
 ·refine .inr ⟨j3,by omega,Pv (i+1),λSj Z' H' p'=>⟨n-(i+1),by omega,rfl,j3,p'⟩,λx H' y=>?_⟩
  obtain⟨rfl,rfl⟩:=y
  exact hs i ys Z _ j3 p
 ·have e:i=n:=by omega
  subst e
  exact .inl ⟨XU _,by omega,hd ys Z H p⟩
theorem jE{K:Qqy}{a:Addr}{xs:List V}{g:TG}{tt:TT}{te:TE}{Q:List V->Hp->Prop}{Z:St}{H:Hp}(hn:xs.length<=sizeLine)(Pv:Nat->List V->St->Hp->Prop)(h0:Pv 0 [] Z H)(hl:∀i ys Z H,i<=xs.length->Pv i ys Z H->gC K H a xs/\ys.length<=i)
  (hs:∀i x ys Z H,xs[i]?=some x->Pv i ys Z H->g x Z H λZ2 H2=>tt Z2 H2 λb H3=>if b=true then te Z2 H3 λv H4=>Pv (i+1) (ys++[v]) Z2 H4 else Pv (i+1) ys Z2 H3)
  (hd:∀ys Z H,Pv xs.length ys Z H->Q ys H):IA g tt te (R1 K a) Q Z H:=by
 refine⟨λi m ys Z H=>m=xs.length-i/\i<=xs.length/\Pv i ys Z H,⟨xs.length,by simp,aaY _,h0⟩,?_⟩
 rintro i m ys Z H ⟨rfl,hi,p⟩
 obtain⟨q,hy⟩:=hl i ys Z H hi p
 by_cases j3:i<xs.length
 ·refine .inr ⟨⟨xs,xs[i],q,by simp[j3]⟩,by omega,Pv (i+1),λSj Z' H' p'=>⟨xs.length-(i+1),by omega,rfl,j3,p'⟩,λx H' y=>?_⟩
  obtain⟨rfl,y⟩:=y
  exact hs i x ys Z _ (y xs q) p
 ·have e:i=xs.length:=by omega
  subst e
  exact .inl ⟨⟨xs,q,XU _⟩,by omega,hd ys Z H p⟩
end L2
namespace PySem
section
variable{prog:Program}{w:World}{A:Around}{E:Qqq}{s:Shared}
end
end PySem
namespace L2
open PySem PySem.Spec PyProof.Rows
def Tv(lo st:Int)(n:Nat):It:=⟨λi _=>i<n,λi H x H'=>H'=H/\x=.int (lo+i*st),λi _=>n<=i⟩
theorem Ew{P:Program}{w:World}{K:PySem.W.Frag}{tg:Expr}(it:Addr)(lo st:Int)(n:Nat):Turn P w K tg (Tv lo st n) [it] it (λi h=>IsRangeIter h it (lo+(i:Nat)*st) ((n:Int)-(i:Nat)) st) where
 mem:=by simp
 obj:=λi h st b hb=>by
  have e:b=it:=by simpa using hb
  subst e
  exact⟨_,st,λv z=>by
   have z':Data.fields _=Data.cell v:=z
   cases z'⟩
 keep:=λi h h' st k=>k it (by simp) _ st
 item:=by
  intro X hP hw hK hc i c_ s Z H E I hf stt hg
  subst hP hw hK
  obtain⟨f0,f1,f2,f3,f4,f5⟩:=hf it (by simp)
  have W:=Walks.range (prog:=X.prog) (w:=X.w) (I.ok.hd hc) it lo st n
  refine W.item i s _ _ hg stt λv h' tk hv yJ kk=>?_
  obtain⟨t,rfl⟩:=hv
  have I1:Inv X c_ Z H {s with heap:=h',toks:=tk}:=I.turned (λb o hb e=>kk b o (by simpa using hb) e) f0 f1 f3 f4 f5
  exact⟨_,rfl,zt (s:={s with heap:=h',toks:=tk}) (n:="range_iterator") yJ rfl rfl (by decide) ⟨.int (lo+i*st),H,I1,⟨t,rfl⟩,⟨rfl,rfl⟩,yJ,λb hb=>(hf b hb).1⟩⟩
 done:=by
  intro X hP hw hK hc i c_ s Z H E I hf st hg
  subst hP hw hK
  obtain⟨f0,f1,f2,f3,f4,f5⟩:=hf it (by simp)
  exact wpAny_pyNext_range_end (I.ok.hd hc) st (by have:n<=i:=hg;omega) λh' eb=>⟨rfl,I.turned (t':=s.toks) (λb o hb e=>eb b o hb e) f0 f1 f3 f4 f5⟩
 self:=λ_ _ _ _ _ st h=>wpAny_pyIter_rangeiter st h
theorem rangeSize_down(a b:Int):Builtin.Range.rangeSize a b (-1)=((a-b).toNat:Int):=by
 unfold Builtin.Range.rangeSize
 simp only [show ¬((-1:Int)>0) by decide,aca]
 have e:(- -1:Int)=1:=by decide
 rw[e,Int.ediv_one]
 split<;>omega
theorem small_down{a b:Int}(ha:-(2 ^ 61)<=a)(ha':a<2 ^ 61)(hb:-(2 ^ 61)<=b)(hb':b<2 ^ 61):Builtin.Range.small a b (-1)=true:=by
 unfold Builtin.Range.small
 rw[rangeSize_down]
 simp only [Builtin.Range.rangeFitsLong,abm,acH,ace,acn,show ¬((-1:Int)>0) by decide,aca]
 omega
section
variable{X:Cx}{tg:Expr}
def Tw(ta:TA):TI:=λZ H R=>ta Z H λvs H1=>∃i j:Int,vs=[.int i,.int j,.int (-1)]/\(-(2 ^ 61)<=i/\i<2 ^ 61/\-(2 ^ 61)<=j/\j<2 ^ 61)/\R (Tv i (-1) (i-j).toNat) H1
theorem wL{a b c:Expr}{ta:TA}{p pos:Pos}(hg:Gl X "range")(hm:X.mg "range"=none)(ha:PA X [a,b,c] ta)(hs:starEach [a,b,c] X.env=[(false,eval a X.env),(false,eval b X.env),(false,eval c X.env)]:=by rfl)
  (Fv:starEach [b,c] X.env=[(false,eval b X.env),(false,eval c X.env)]:=by rfl):PI X tg (.Call (.Name "range" p) [a,b,c] [] pos) (Tw ta):=by
 intro c_ s Z H R I h
 refine Call_ (oZ I hg hm boot_range (abg (i3 (ha pos c_ s Z H _ I h) λus s1 iH=>?_) (by rw[hs,Fv]) (by rw[Fv];rfl)))
 obtain⟨vs,H1,I1,r1,q1⟩:=iH
 obtain⟨i,j,e,⟨q1,q2,q3,q4⟩,q⟩:=q1
 subst e
 cases r1 with
 | cons r rr=>
  cases rr with
  | cons r' rr=>
   cases rr with
   | cons r'' rr=>
    cases rr
    obtain⟨t,rfl⟩:=r
    obtain⟨t',rfl⟩:=r'
    obtain⟨t'',rfl⟩:=r''
    refine call_range_3 (by decide) ?_ (Or.inl (PyProof.noPylong_small (by decide)))
    refine wpAny_pyIter_range (IsRange.new ..) (small_down q1 q2 q3 q4) ?_
    generalize ho:({cls:=.type "range",data:=.fields #[.int i t,.int j t',.int (-1) t'']}:Obj)=o
    have I2:Inv X c_ Z H1 {s1 with heap:=s1.heap.push o,toks:=s1.toks}:=I1.kept λb o e=>aaB _ e
    refine⟨(s1.heap.push o).objs.size,[(s1.heap.push o).objs.size],_,_,H1,rfl,I2.kept (t':=s1.toks) λb o e=>aaB _ e,Ew _ i (-1) (i-j).toNat,?_,λb hb=>?_,q⟩
    ·show IsRangeIter _ _ (i+((0:Nat):Int)*(-1)) ((((i-j).toNat:Nat):Int)-((0:Nat):Int)) (-1)
     have e1:i+((0:Nat):Int)*(-1)=i:=by simp
     have e2:(((i-j).toNat:Nat):Int)-((0:Nat):Int)=Builtin.Range.rangeSize i j (-1):=by rw[rangeSize_down];simp
     rw[e1,e2]
     exact aaN _ rfl
    ·have e:b=(s1.heap.push o).objs.size:=by simpa using hb
     subst e
     exact I2.zr (XU _) (I2.iK.fresh (XU _))
end
theorem uo{lo st:Int}{n:Nat}{g:TG}{tb:TS}{D:Ends}{Z:St}{H:Hp}(Pv:Nat->St->Hp->Prop)(h0:Pv 0 Z H)
  (hs:∀i Z H,i<n->Pv i Z H->g (.int (lo+i*st)) Z H λZ2 H2=>tb {D with nx:=Pv (i+1),ct:=Pv (i+1),bk:=D.nx} Z2 H2) (hd:∀Z H,Pv n Z H->D.nx Z H) :
  ∃W:Nat->Nat->St->Hp->Prop,(∃m,W 0 m Z H)/\∀i m Z H,W i m Z H->
   ((Tv lo st n).stop i H/\D.nx Z H)\/((Tv lo st n).go i H/\∃N:St->Hp->Prop,(∀Z' H',N Z' H'->∃m',m'<m/\W (i+1) m' Z' H')/\∀x H',(Tv lo st n).JJ i H x H'->g x Z H' λZ2 H2=>tb {D with nx:=N,ct:=N,bk:=D.nx} Z2 H2):=by
 refine⟨λi m Z H=>m=n-i/\i<=n/\Pv i Z H,⟨n,by simp,aaY _,h0⟩,?_⟩
 rintro i m Z H ⟨rfl,hi,p⟩
 by_cases j3:i<n
 ·refine .inr ⟨j3,Pv (i+1),λZ' H' p'=>⟨n-(i+1),by omega,rfl,j3,p'⟩,λx H' y=>?_⟩
  obtain⟨e,y⟩:=y
  subst e y
  exact hs i Z _ j3 p
 ·have e:i=n:=by omega
  subst e
  exact .inl ⟨XU _,hd Z H p⟩
section
variable{X:Cx}
theorem j2:uV X (.builtin "isinstance") (λxs H Q=>∃x T t b,xs=[x,.ty T]/\wD X.K H x t/\W.kitOne X.K t (.type T)=some b/\Q (.bl b) H):=by
 intro c_ s Z H xs us Q I r h
 obtain⟨x,T,t,b,rfl,ty,e,q⟩:=h
 obtain⟨u,u',rfl,ru,ru'⟩:=vals2 r
 cases (show u'=Value.type T from ru')
 exact Io I ru ty e λtk=>⟨.bl b,H,I.tok tk,rfl,q⟩
theorem zF:∀{xs:List Str} {us:List Value},Vals (xs.map V.str) us->StrsAre us xs
 | [],_,h=>by cases h;exact .nil
 | x::r,_,h=>by
  cases h with
  | cons a t=>
   obtain⟨tk,rfl⟩:=a
   exact .cons x tk (zF t)
def rJoin(K:Qqy):V->List V->Hp->VK->Prop:=λx vs H Q=>∃z l xs,x=.str z/\vs=[.ref l]/\gC K H l (xs.map V.str)/\(xs.map (·.length)).sum+xs.length*z.length<=16777216/\Q (.str (Txt.join z xs)) H
theorem MT:Xz X "str.join" (rJoin X.K):=by
 intro c_ s Z H x xs v us Q I rx r h
 obtain⟨z,l,ys,rfl,rfl,hl,hz,q⟩:=h
 obtain⟨u,rfl,ru⟩:=vals1 r
 cases ru
 obtain⟨t,rfl⟩:=rx
 obtain⟨hE,rv,p,_⟩:=I.list hl
 exact join_list p.isList (by simpa using zF rv) hz λt' k=>⟨.str _,H,I.tok k,⟨t',rfl⟩,q⟩
end
inductive mL(K:Qqy)(H:Hp):Nat->V->V->Bool->Prop
 | flat {n x y} (fx:l8 x=true) (fy:l8 y=true):mL K H n x y (Iq x y)
 | lists {n a c xs ys} {e:Nat->Bool} (h1:gC K H a xs) (h2:gC K H c ys) (hl:xs.length=ys.length) (he:∀(j:Nat) u v,xs[j]?=some u->ys[j]?=some v->mL K H n u v (e j)):mL K H (n+1) (.ref a) (.ref c) ((List.range xs.length).all e)
 | J4 {n a c xs ys} (h1:gC K H a xs) (h2:gC K H c ys) (hl:xs.length≠ys.length):mL K H n (.ref a) (.ref c) false
 | qh {n a c xs ys} {e:Nat->Bool} (h1:ox K H a xs) (h2:ox K H c ys) (he:∀(j:Nat) u v,xs[j]?=some u->ys[j]?=some v->mL K H n u v (e j)):mL K H (n+1) (.ref a) (.ref c) ((List.range (min xs.length ys.length)).all e&&xs.length ==ys.length)
 | wM {n a xs y} (h1:gC K H a xs) (fy:l8 y=true):mL K H n (.ref a) y false
 | wN {n a xs y} (h1:gC K H a xs) (fy:l8 y=true):mL K H n y (.ref a) false
 | zG {n a xs y} (h1:ox K H a xs) (fy:l8 y=true):mL K H n (.ref a) y false
 | zH {n a xs y} (h1:ox K H a xs) (fy:l8 y=true):mL K H n y (.ref a) false
 | zI {n a c xs ys} (h1:gC K H a xs) (h2:ox K H c ys):mL K H n (.ref a) (.ref c) false
 | zJ {n a c xs ys} (h1:ox K H a xs) (h2:gC K H c ys):mL K H n (.ref a) (.ref c) false
theorem J6:∀{x:V},l8 x=true->Iq x x=true:=by
 intro x h
 cases x<;>simp[l8,Iq] at *
section
variable{X:Cx}{c_:Qqz}{Z:St}{H:Hp}{s:Shared}
theorem Inv.OB{a c:Addr}{xs ys:List V}(I:Inv X c_ Z H s)(h1:gC X.K H a xs)(h2:ox X.K H c ys):a≠c:=by
 obtain⟨hE,_,p,_⟩:=I.list h1
 obtain⟨l4,_,p2,_⟩:=I.tuple h2
 exact SeqAt.ne_of_list_tuple p.isList (show s.heap.IsTuple c l4.toArray from p2)
theorem mL.self{n:Nat}{x y:V}{b:Bool}(I:Inv X c_ Z H s)(h:mL X.K H n x y b):x=y->b=true:=by
 induction h with
 | flat fx fy=>intro e;subst e;exact J6 fx
 | lists h1 h2 hl he ih=>
  intro e
  cases e
  have:=I.pA h1 h2
  subst this
  refine abC.mpr λj hj=>?_
  have hj:=abr.mp hj
  exact ih j _ _ (UQ hj) (UQ hj) rfl
 | J4 h1 h2 hl=>intro e;cases e;exact absurd (abd List.length (I.pA h1 h2)) hl
 | qh h1 h2 he ih=>
  intro e
  cases e
  have:=I.Ih h1 h2
  subst this
  rw[abm]
  refine⟨abC.mpr λj hj=>?_,by simp⟩
  have hj:=abr.mp hj
  rw[Nat.min_self] at hj
  exact ih j _ _ (UQ hj) (UQ hj) rfl
 | wM h1 fy=>intro e;subst e;exact absurd (show false=true from fy) aaw
 | wN h1 fy=>intro e;subst e;exact absurd (show false=true from fy) aaw
 | zG h1 fy=>intro e;subst e;exact absurd (show false=true from fy) aaw
 | zH h1 fy=>intro e;subst e;exact absurd (show false=true from fy) aaw
 | zI h1 h2=>intro e;cases e;exact absurd rfl (I.OB h1 h2)
 | zJ h1 h2=>intro e;cases e;exact absurd rfl (I.OB h2 h1)
theorem qj{y:V}{v:Value}(r:RelV y v)(f:l8 y=true):v=.none\/(∃b,v=.bool b)\/(∃i t,v=.int i t)\/∃x t,v=.str x t:=by
 cases y with
 | jc=>exact .inl r
 | bl b=>exact .inr (.inl ⟨b,r⟩)
 | int i=>obtain⟨t,e⟩:=r;exact .inr (.inr (.inl ⟨i,t,e⟩))
 | str x=>obtain⟨t,e⟩:=r;exact .inr (.inr (.inr ⟨x,t,e⟩))
 | _=>exact absurd (show false=true from f) aaw
theorem oC{xs:List V}{hE:List Value}(rv:Vals xs hE){j:Nat}(h:j<hE.toArray.size):∃x,xs[j]?=some x/\RelV x hE.toArray[j]:=by
 have hl:=rv.length
 have hj:j<hE.length:=by simpa using h
 have hx:j<xs.length:=by omega
 obtain⟨u,hu,ru⟩:=rv.get (UQ hx)
 refine⟨xs[j],UQ hx,?_⟩
 rw[UQ hj] at hu
 cases hu
 simpa using ru
theorem mL.at{n:Nat}{x y:V}{b:Bool}(I:Inv X c_ Z H s)(h:mL X.K H n x y b):∀(A:Around)(u v:Value),RelV x u->RelV y v->A.units+n<cLine->SeqAt.EqAt A s u v b:=by
 induction h with
 | flat fx fy=>intro A u v ru rv _;exact JR ru rv fx fy
 | @lists n a c xs ys e h1 h2 hl he ih=>
  intro A u v ru rv hu
  cases ru;cases rv
  by_cases UE:a=c
  ·subst UE
   have hb:=mL.self I (mL.lists h1 h2 hl he) rfl
   rw[hb]
   exact SeqAt.EqAt.same _
  ·obtain⟨hE,r1,p1,_⟩:=I.list h1
   obtain⟨l4,r2,p2,_⟩:=I.list h2
   have l1:=r1.length
   have l2:=r2.length
   refine SeqAt.EqAt.of_refs UE ?_
   have q:=SeqAt.RcAt.lists (A:=A) (e:=e) p1.isList p2.isList (by simp;omega) (by omega) λj g1 g2=>by
    obtain⟨x,ex,rx⟩:=oC r1 g1
    obtain⟨y,ey,ry⟩:=oC r2 g2
    exact ih j x y ex ey A.in1 _ _ rx ry (by show A.units+1+n<cLine;omega)
   rw[aaz,<-l1] at q
   exact q
 | @J4 n a c xs ys h1 h2 hl=>
  intro A u v ru rv hu
  cases ru;cases rv
  obtain⟨hE,r1,p1,_⟩:=I.list h1
  obtain⟨l4,r2,p2,_⟩:=I.list h2
  have l1:=r1.length
  have l2:=r2.length
  refine SeqAt.EqAt.of_refs (λe=>?_) (SeqAt.RcAt.lists_lengths p1.isList p2.isList (by simp;omega) (by omega))
  subst e
  exact hl (abd List.length (I.pA h1 h2))
 | @qh n a c xs ys e h1 h2 he ih=>
  intro A u v ru rv hu
  cases ru;cases rv
  by_cases UE:a=c
  ·subst UE
   have hb:=mL.self I (mL.qh h1 h2 he) rfl
   rw[hb]
   exact SeqAt.EqAt.same _
  ·obtain⟨hE,r1,p1,_⟩:=I.tuple h1
   obtain⟨l4,r2,p2,_⟩:=I.tuple h2
   have l1:=r1.length
   have l2:=r2.length
   refine SeqAt.EqAt.of_refs UE ?_
   have q:=SeqAt.RcAt.tuples (A:=A) (e:=e) (show s.heap.IsTuple a hE.toArray from p1) (show s.heap.IsTuple c l4.toArray from p2) (by omega) λj g1 g2=>by
    obtain⟨x,ex,rx⟩:=oC r1 g1
    obtain⟨y,ey,ry⟩:=oC r2 g2
    exact ih j x y ex ey A.in1 _ _ rx ry (by show A.units+1+n<cLine;omega)
   rw[aaz,aaz,<-l1,<-l2] at q
   exact q
 | @wM n a xs y h1 fy=>
  intro A u v ru rv hu
  cases ru
  obtain⟨hE,r1,p1,_⟩:=I.list h1
  rcases qj rv fy with rfl|⟨b,rfl⟩|⟨i,t,rfl⟩|⟨x,t,rfl⟩
  ·exact .list_none p1.isList (by omega)
  ·exact .list_bool b p1.isList (by omega)
  ·exact .list_int i t p1.isList (by omega)
  ·exact .list_str x t p1.isList (by omega)
 | @wN n a xs y h1 fy=>
  intro A u v ru rv hu
  cases rv
  obtain⟨hE,r1,p1,_⟩:=I.list h1
  rcases qj ru fy with rfl|⟨b,rfl⟩|⟨i,t,rfl⟩|⟨x,t,rfl⟩
  ·exact .none_list p1.isList (by omega)
  ·exact .bool_list b p1.isList (by omega)
  ·exact .int_list i t p1.isList (by omega)
  ·exact .str_list x t p1.isList (by omega)
 | @zG n a xs y h1 fy=>
  intro A u v ru rv hu
  cases ru
  obtain⟨hE,r1,p1,_⟩:=I.tuple h1
  have p1:s.heap.IsTuple a hE.toArray:=p1
  rcases qj rv fy with rfl|⟨b,rfl⟩|⟨i,t,rfl⟩|⟨x,t,rfl⟩
  ·exact .tuple_none p1 (by omega)
  ·exact .tuple_bool b p1 (by omega)
  ·exact .tuple_int i t p1 (by omega)
  ·exact .tuple_str x t p1 (by omega)
 | @zH n a xs y h1 fy=>
  intro A u v ru rv hu
  cases rv
  obtain⟨hE,r1,p1,_⟩:=I.tuple h1
  have p1:s.heap.IsTuple a hE.toArray:=p1
  rcases qj ru fy with rfl|⟨b,rfl⟩|⟨i,t,rfl⟩|⟨x,t,rfl⟩
  ·exact .none_tuple p1 (by omega)
  ·exact .bool_tuple b p1 (by omega)
  ·exact .int_tuple i t p1 (by omega)
  ·exact .str_tuple x t p1 (by omega)
 | @zI n a c xs ys h1 h2=>
  intro A u v ru rv hu
  cases ru;cases rv
  obtain⟨hE,r1,p1,_⟩:=I.list h1
  obtain⟨l4,r2,p2,_⟩:=I.tuple h2
  exact .list_tuple p1.isList (show s.heap.IsTuple c l4.toArray from p2) (by omega)
 | @zJ n a c xs ys h1 h2=>
  intro A u v ru rv hu
  cases ru;cases rv
  obtain⟨hE,r1,p1,_⟩:=I.tuple h1
  obtain⟨l4,r2,p2,_⟩:=I.list h2
  exact .tuple_list (show s.heap.IsTuple a hE.toArray from p1) p2.isList (by omega)
def Qg(x y:V):Prop:=∃a c,x=.ref a/\y=.ref c
theorem mL.rc{n:Nat}{x y:V}{b:Bool}{A:Around}{u v:Value}(I:Inv X c_ Z H s)(h:mL X.K H n x y b)(sq:Qg x y)(ru:RelV x u)(rv:RelV y v)(hu:A.units+n+1<cLine):SeqAt.RcAt A s u v b/\SeqAt.RcNeAt A s u v (!b):=by
 obtain⟨a0,c0,rfl,rfl⟩:=sq
 cases ru;cases rv
 cases h with
 | flat fx fy=>exact absurd (show false=true from fx) aaw
 | @lists n a c xs ys e h1 h2 hl he=>
  obtain⟨hE,r1,p1,_⟩:=I.list h1
  obtain⟨l4,r2,p2,_⟩:=I.list h2
  have l1:=r1.length
  have l2:=r2.length
  have el:∀j (g1:j<hE.toArray.size) (g2:j<l4.toArray.size),SeqAt.EqAt A.in1 s hE.toArray[j] l4.toArray[j] (e j):=λj g1 g2=>by
   obtain⟨x,ex,rx⟩:=oC r1 g1
   obtain⟨y,ey,ry⟩:=oC r2 g2
   exact(he j x y ex ey).at I A.in1 _ _ rx ry (by show A.units+1+n<cLine;omega)
  have q:=SeqAt.RcAt.lists (A:=A) (e:=e) p1.isList p2.isList (by simp;omega) (by omega) el
  have q':=SeqAt.RcNeAt.lists (A:=A) (e:=e) p1.isList p2.isList (by simp;omega) (by omega) el
  rw[aaz,<-l1] at q q'
  exact⟨q,q'⟩
 | @J4 n a c xs ys h1 h2 hl=>
  obtain⟨hE,r1,p1,_⟩:=I.list h1
  obtain⟨l4,r2,p2,_⟩:=I.list h2
  have l1:=r1.length
  have l2:=r2.length
  exact⟨SeqAt.RcAt.lists_lengths p1.isList p2.isList (by simp;omega) (by omega),SeqAt.RcNeAt.lists_lengths p1.isList p2.isList (by simp;omega) (by omega)⟩
 | @qh n a c xs ys e h1 h2 he=>
  obtain⟨hE,r1,p1,_⟩:=I.tuple h1
  obtain⟨l4,r2,p2,_⟩:=I.tuple h2
  have l1:=r1.length
  have l2:=r2.length
  have el:∀j (g1:j<hE.toArray.size) (g2:j<l4.toArray.size),SeqAt.EqAt A.in1 s hE.toArray[j] l4.toArray[j] (e j):=λj g1 g2=>by
   obtain⟨x,ex,rx⟩:=oC r1 g1
   obtain⟨y,ey,ry⟩:=oC r2 g2
   exact(he j x y ex ey).at I A.in1 _ _ rx ry (by show A.units+1+n<cLine;omega)
  have q:=SeqAt.RcAt.tuples (A:=A) (e:=e) (show s.heap.IsTuple a0 hE.toArray from p1) (show s.heap.IsTuple c0 l4.toArray from p2) (by omega) el
  have q':=SeqAt.RcNeAt.tuples (A:=A) (e:=e) (show s.heap.IsTuple a0 hE.toArray from p1) (show s.heap.IsTuple c0 l4.toArray from p2) (by omega) el
  rw[aaz,aaz,<-l1,<-l2] at q q'
  exact⟨q,q'⟩
 | wM h1 fy=>exact absurd (show false=true from fy) aaw
 | wN h1 fy=>exact absurd (show false=true from fy) aaw
 | zG h1 fy=>exact absurd (show false=true from fy) aaw
 | zH h1 fy=>exact absurd (show false=true from fy) aaw
 | @zI n a c xs ys h1 h2=>
  obtain⟨hE,r1,p1,_⟩:=I.list h1
  obtain⟨l4,r2,p2,_⟩:=I.tuple h2
  exact⟨.list_tuple p1.isList (show s.heap.IsTuple c0 l4.toArray from p2) (by omega),.list_tuple p1.isList (show s.heap.IsTuple c0 l4.toArray from p2) (by omega)⟩
 | @zJ n a c xs ys h1 h2=>
  obtain⟨hE,r1,p1,_⟩:=I.tuple h1
  obtain⟨l4,r2,p2,_⟩:=I.list h2
  exact⟨.tuple_list (show s.heap.IsTuple a0 hE.toArray from p1) p2.isList (by omega),.tuple_list (show s.heap.IsTuple a0 hE.toArray from p1) p2.isList (by omega)⟩
end
section
variable{X:Cx}
def XQ(K:Qqy)(n:Nat):R2:=λx y H Q=>∃b,Qg x y/\mL K H n x y b/\Q (.bl b) H
def XR(K:Qqy)(n:Nat):R2:=λx y H Q=>∃b,Qg x y/\mL K H n x y b/\Q (.bl (!b)) H
theorem J7(n:Nat)(hu:X.A.units+n+1<cLine):xN X (compareOp .Eq) (XQ X.K n):=by
 intro c_ s Z H x y u v Q I rx ry h
 obtain⟨b,sq,e,q⟩:=h
 exact(e.rc I sq rx ry hu).1 X.prog X.w X.xe _ ⟨.bl b,H,I,rfl,q⟩
theorem CG(n:Nat)(hu:X.A.units+n+1<cLine):xN X (compareOp .NotEq) (XR X.K n):=by
 intro c_ s Z H x y u v Q I rx ry h
 obtain⟨b,sq,e,q⟩:=h
 exact(e.rc I sq rx ry hu).2 X.prog X.w X.xe _ ⟨.bl (!b),H,I,rfl,q⟩
end
theorem mL.MU{K:Qqy}{H:Hp}{n:Nat}{Y:Type}[DecidableEq Y]{F:Y->V->Prop}(hF:∀p q u v,F p u->F q v->mL K H n u v (decide (p=q))){a c:Addr}{xs ys:List V}{ps qs:List Y}
  (h1:gC K H a xs) (h2:gC K H c ys) (r1:Paired F ps xs) (r2:Paired F qs ys):mL K H (n+1) (.ref a) (.ref c) (decide (ps=qs)):=by
 have l1:=r1.length
 have l2:=r2.length
 have UG:∀{ps:List Y} {xs:List V},Paired F ps xs->∀(j:Nat) u,xs[j]?=some u->∃p,ps[j]?=some p/\F p u:=by
  intro ps xs r
  induction r with
  | nil=>intro j u h;simp at h
  | cons f t ih=>
   intro j u h
   cases j with
   | zero=>simp at h;subst h;exact⟨_,rfl,f⟩
   | succ j=>simpa using ih j u (by simpa using h)
 by_cases hl:xs.length=ys.length
 ·have e:mL K H (n+1) (.ref a) (.ref c) ((List.range xs.length).all λj=>decide (ps[j]?=qs[j]?)):=.lists h1 h2 hl λj u v hu hv=>by
   obtain⟨p,ep,fp⟩:=UG r1 j u hu
   obtain⟨q,eq,fq⟩:=UG r2 j v hv
   have:=hF p q u v fp fq
   rw[ep,eq]
   have e:decide (some p=some q)=decide (p=q):=by simp
   rw[e]
   exact this
  have e2:((List.range xs.length).all λj=>decide (ps[j]?=qs[j]?))=decide (ps=qs):=by
   by_cases h:ps=qs
   ·subst h;simp
   ·rw[aap h,ab2]
    intro z
    refine h (List.ext_getElem? λj=>?_)
    by_cases hj:j<xs.length
    ·simpa using abC.mp z j (abr.mpr hj)
    ·rw[List.getElem?_eq_none_iff.mpr (by omega),List.getElem?_eq_none_iff.mpr (by omega)]
  rw[<-e2]
  exact e
 ·rw[aap λz=>hl (by rw[<-l1,<-l2,z])]
  exact .J4 h1 h2 hl
theorem mL.CH{K:Qqy}{H:Hp}{n:Nat}(p q:Str):mL K H n (.str p) (.str q) (decide (p=q)):=by
 have:Iq (.str p) (.str q)=decide (p=q):=(Bool.beq_eq_decide_eq p q)
 rw[<-this]
 exact .flat rfl rfl
theorem mL.J9{K:Qqy}{H:Hp}{n:Nat}(p q:Int):mL K H n (.int p) (.int q) (decide (p=q)):=by
 have:Iq (.int p) (.int q)=decide (p=q):=(Bool.beq_eq_decide_eq p q)
 rw[<-this]
 exact .flat rfl rfl
structure Tx(P:Program)(w:World)(outer:List Env)(H H':Hp)(s s':Shared)(e C:Addr):Prop where
 os:s'.os=s.os
 bare:AllBare s'.gens
 un:Un (uh outer) [] H H' s.heap s'.heap
 iK:rq P w H' s'.heap
 fl:∃B t,Heap.FlyingW B outer e (.ref C) (.ref t) s'.heap/\∀b o,s'.heap.get? b=some o->b∉uh outer->((∃u,H' b=some u)\/∃o',s.heap.get? b=some o')->B.get? b=some o
 new:s.heap.get? e=none
 free:H' e=none
def tT(P:Program)(w:World):Hl:=λouter H s E ev s'=>∃e C H',ev=.ref e/\Tx P w outer H H' s s' e C/\E (.ref C) none H'
theorem i0.ex{P:Program}{w:World}{H:Hp}{h:Heap}{a:Addr}{o:HO}(x:i0 P w H h a o):∃ob,h.get? a=some ob:=by
 cases o with
 | lst xs=>obtain⟨_,_,_,_,e⟩:=x;exact⟨_,e⟩
 | tup xs=>obtain⟨_,_,_,o,e,_⟩:=x;exact⟨_,e⟩
 | dK kvs=>obtain⟨_,_,_,_,o,_,_,e,_⟩:=x;exact⟨_,e⟩
 | dT kvs=>obtain⟨_,_,_,_,o,_,_,e,_⟩:=x;exact⟨_,e⟩
 | set S n=>obtain⟨o,_,_,_,e,_⟩:=x;exact⟨_,e⟩
 | ins C dx fs=>obtain⟨_,_,_,e,_⟩:=x;exact⟨_,e⟩
 | own y=>obtain⟨_,e⟩:=x;exact⟨_,e⟩
 | xd fs=>obtain⟨_,⟨_,_,_,e,_⟩,_⟩:=x;exact⟨_,e⟩
 | V9 lo hi=>obtain⟨_,_,_,e⟩:=x;exact⟨_,e⟩
 | ni ob u=>obtain⟨e,_⟩:=x;exact⟨_,e⟩
 | Ml ps=>exact⟨_,(show h.get? a=some _ from x)⟩
 | met f y=>exact⟨_,(show h.get? a=some _ from x)⟩
 | ext Z=>obtain⟨_,⟨_,e⟩,_⟩:=x;exact⟨_,e⟩
section
variable{X:Cx}{c_:Qqz}{Z:St}{H H':Hp}{s s':Shared}{e C:Addr}{M:Model}{E:Qqq}
structure Bd(X:Cx):Prop where
 stack:X.stack=X.env::X.outer
 frame:X.env.frame=some X.env.locals
 ex:X.ex=[]
theorem Inv.MC(I:Inv X c_ Z H s){b:Addr}{o:Obj}(h:X.s₀.heap.get? b=some o)(nf:b∉X.fs):b∉uh X.stack:=λhb=>by
 rcases aag.mp (I.wz b hb) with z|z
 ·rw[z] at h
  exact absurd (aaR (aaJ h) I.ok.above) (abu _)
 ·exact nf z
theorem J_(I:Inv X c_ Z H s)(bd:Bd X)(un:Un (uh X.stack) [] H H' s.heap s'.heap)(hos:s'.os=s.os)(UH:AllBare s'.gens)(iK:rq X.prog X.w H' s'.heap){B Rl:Heap}{t:Addr}
  (hB:∀b o,s'.heap.get? b=some o->b∉uh X.stack->((∃u,H' b=some u)\/∃o',s.heap.get? b=some o')->B.get? b=some o)
  (hF:s'.heap.FunFrames B X.stack) (qg:Heap.FlyingW B X.outer e (.ref C) (.ref t) Rl) (up:s'.heap.UpToSlots Rl) (new:s.heap.get? e=none) (YC:H' e=none) :
  Tx X.prog X.w X.outer X.H₀ H' X.s₀ {s' with heap:=Rl} e C:=by
 have hex:=bd.ex
 have UI:∀b∈uh X.stack,H' b=none:=λb hb=>by
  obtain⟨_,o,ho,_⟩:=I.stack.mem hb
  exact un.free b o ho (I.Cr b hb) (by simp)
 have OZ:∀b u,H' b=some u->b∉uh X.stack:=λb u hu hb=>by rw[UI b hb] at hu;cases hu
 have Co:∀b o u,s'.heap.get? b=some o->H' b=some u->Rl.get? b=some o:=λb o u ho hu=>
  qg.1 b o (hB b o ho (OZ b u hu) (.inl ⟨u,hu⟩))
 have tK:∀b,b∉X.ex:=λb z=>by rw[hex] at z;cases z
 have outS:∀b,b∈uh X.outer->b∈uh X.stack:=λb hb=>by
  rw[bd.stack];unfold uh;rw[abD,bd.frame];exact aal _ hb
 refine⟨hos.trans I.os,UH,⟨λb o q n hb hx=>?_,λb o q n hb hx=>?_,λb o q n hx=>?_,λb o q hx=>?_,λb xs q=>un.qh b xs (I.base.qh b xs q),λb o u q=>un.uQ b o u (I.base.uQ b o u q),λb ps q=>?_⟩,λa u ha=>?_,⟨B,t,qg,λb o hb nb hc=>?_⟩,?_,YC⟩
 ·have q1:=I.base.keep b o q n hb (tK b)
  have nf:=I.MC q hb
  exact qg.1 b o (hB b o (un.keep b o q1 (I.base.free b o q n (tK b)) nf (by simp)) nf (.inr ⟨o,q1⟩))
 ·obtain⟨sl,q1⟩:=I.base.slot b o q n hb (tK b)
  obtain⟨Mm,q2⟩:=un.any q1 (I.base.free b o q n (tK b)) (by simp)
  obtain⟨_,o',qf,hd⟩:=I.ok.uR.mem hb
  rw[q] at qf;cases qf
  obtain⟨FO,q3⟩:=up b _ q2 hd
  exact⟨FO,q3⟩
 ·obtain⟨o',q1⟩:=I.base.there b o q (tK b)
  exact un.free b o' q1 (I.base.free b o q n (tK b)) (by simp)
 ·obtain⟨o1,q1⟩:=I.base.there b o q (tK b)
  obtain⟨o2,q2⟩:=un.there b o1 q1 (by simp)
  by_cases hb:b∈uh X.stack
  ·obtain⟨_,o',qf,hd⟩:=hF.mem hb
   rw[q2] at qf;cases qf
   obtain⟨FO,q3⟩:=up b _ q2 hd
   exact⟨_,q3⟩
  ·exact⟨o2,qg.1 b o2 (hB b o2 q2 hb (.inr ⟨o1,q1⟩))⟩
 ·obtain⟨m1,e1⟩:=I.base.yM b ps q
  obtain⟨m2,e2⟩:=un.yM b _ e1
  exact⟨m1++m2,by rw[e2,Array.append_assoc]⟩
 ·refine(iK a u ha).zq (λb v hb q=>?_) (λ_ z=>z) λ_ _ z=>z
  rcases hb with z|z
  ·rw[z] at q ⊢;exact Co a v u q ha
  ·exact Co b v _ q z
 ·have all:∀o1,s'.heap.get? b=some o1->b∉uh X.stack->((∃u,H' b=some u)\/∃o',s.heap.get? b=some o')->B.get? b=some o:=λo1 q1 nf c=>by
   have z:=hB b o1 q1 nf c
   have z2:=qg.1 b o1 z
   have hb:Rl.get? b=some o:=hb
   rw[hb] at z2;cases z2
   exact z
  rcases hc with⟨u,hu⟩|⟨o',qf⟩
  ·obtain⟨o1,q1⟩:=(iK b u hu).ex
   exact all o1 q1 (OZ b u hu) (.inl ⟨u,hu⟩)
  ·obtain⟨o1,q1⟩:=I.base.there b o' qf (tK b)
   obtain⟨o2,q2⟩:=un.there b o1 q1 (by simp)
   exact all o2 q2 (I.MC qf nb) (.inr ⟨o1,q1⟩)
 ·cases q:X.s₀.heap.get? e with
  | none=>rfl
  | some o=>
   obtain⟨o1,q1⟩:=I.base.there e o q (tK e)
   rw[new] at q1;cases q1
theorem Ka(I:Inv X c_ Z H s)(bd:Bd X)(F:Tx X.prog X.w X.stack H H' s s' e C) :
  wpAny M X.A (leaving X.env (.ref e)) (λ_ Jp=>Tx X.prog X.w X.outer X.H₀ H' X.s₀ Jp e C) E s':=by
 obtain⟨B,t,fl,hB⟩:=F.fl
 have fl':=fl
 rw[bd.stack] at fl'
 refine wpAny_leaves_onW (by rw[I.ok.frames,bd.stack]) bd.frame fl' λRl qg up=>?_
 exact J_ I bd F.un F.os F.bare F.iK hB fl.2.2.1 qg up F.new F.free
theorem Gp{vs:List Value}{h':Heap}(I:Inv X c_ Z H s)(bd:Bd X)(hx:Heap.MadeExcOf s.heap h' e (.ref C) vs) :
  wpAny M X.A (leaving X.env (.ref e)) (λ_ Jp=>Tx X.prog X.w X.outer X.H₀ H X.s₀ Jp e C) E {s with heap:=h'}:=by
 have G2:∀env∈X.stack,∀b,env.frame=some b->b∈uh X.stack:=λenv he b hb=>abw.mpr ⟨env,he,hb⟩
 have hF:=W.funFrames_hide I.stack G2
 have YC:H e=none:=by
  cases q:H e with
  | none=>rfl
  | some u=>
   obtain⟨o,ho⟩:=(I.iK e u q).ex
   rw[hx.new] at ho;cases ho
 have un:Un (uh X.stack) [] H H s.heap h':=Un.kept hx.keeps
 have hB:∀b o,h'.get? b=some o->b∉uh X.stack->((∃u,H b=some u)\/∃o',s.heap.get? b=some o')->(W.hideAll s.heap (uh X.stack)).get? b=some o:=λb o hb nf c=>by
  have:∃o',s.heap.get? b=some o':=by
   rcases c with⟨u,hu⟩|c
   ·exact(I.iK b u hu).ex
   ·exact c
  obtain⟨o',qf⟩:=this
  have z:=hx.keeps b o' qf
  rw[hb] at z;cases z
  exact W.hideAll_get _ qf nf
 have hF2:h'.FunFrames (W.hideAll s.heap (uh X.stack)) X.stack:=hF.of_keeps λb o ho _=>⟨o,hx.keeps b o ho,rfl⟩
 refine wpAny_leaves_madeW (base:=W.hideAll s.heap (uh X.stack)) (h:=s.heap) (by rw[I.ok.frames,bd.stack]) bd.frame (λb o q=>W.of_hideAll _ q) (by rw[<-bd.stack];exact hF) hx λRl t qg tup nt up=>?_
 exact J_ (s':={s with heap:=h'}) I bd un rfl I.bare (I.iK.kept hx.keeps) hB hF2 qg up hx.new YC
structure Bx(X:Cx)(E:XK):Prop where
 bd:Bd X
 calm:X.calm=true
 xe:∀ev s',wpAny (model X.prog X.w) X.A (leaving X.env ev) (λ_ Jp=>tT X.prog X.w X.outer X.H₀ X.s₀ E ev Jp) (λe' Jp=>tT X.prog X.w X.outer X.H₀ X.s₀ E e' Jp) s'->X.xe ev s'
theorem bx{P:Program}{w:World}{K:Qqy}{mg:Qqx}{base:Heap}{N:List Str}{qual:Str}{scope:Scope}{f:Addr}{cd:Value}{A:Around}{outer:List Env}{s:Shared}{H:Hp}{E:XK} :
 Bx (wF (tT P w) P w K mg base N qual scope f cd A outer s H E) E:=⟨⟨rfl,rfl,rfl⟩,rfl,λ_ _ h=>h⟩
theorem OC{EX:XK}(b:Bx X EX):Passes (tT X.prog X.w) X EX:=λc_ Z H s ev s' I ⟨e,C,H',he,F,q⟩=>by
 subst he
 exact b.xe _ _ (i3 (Ka I b.bd F) λ_ Jp F'=>⟨e,C,H',rfl,F',q⟩)
theorem Kb{P:Program}{w:World}{K:Qqy}{mg:Qqx}{base:Heap}{N:List Str}{qual:Str}{scope:Scope}{f:Addr}{cd:Value}{A:Around}{outer:List Env}{s:Shared}{H:Hp}{E:XK} :
 PassesOwn (model P w) (wF (tT P w) P w K mg base N qual scope f cd A outer s H E).A (wF (tT P w) P w K mg base N qual scope f cd A outer s H E).env (wF (tT P w) P w K mg base N qual scope f cd A outer s H E).xe:=PassesOwn.leaving
structure Exc(K:Qqy)(mg:Qqx)(x:Str)(C:Addr):Prop where
 m:mg x=some (.ref C)
 q:W.excIn K C [.type "ValueError",.type "Exception",.type "BaseException",.type "object"] "ValueError.__new__"=true
def Qh(C:Addr)(EX:XK)(ta:TE):TS:=λ_ Z H=>ta Z H λ_ H1=>EX (.ref C) none H1
theorem MV{K:Qqy}{h:Heap}{C:Addr}{bmB:List Value}{newId:String}(X:K.In h)(q:W.excIn K C bmB newId=true):∃bm N nm q bs hdct sn sub ab col dd k0 k1 k2 k3 k5 mN,h.get? C=some (excClassObj nm q C N bs bm hdct sn sub ab col dd k0 k1 k2 k3 k5 newId)/\h.Ns N mN/\mN "__init__"=none/\OwnTail h bmB bm:=by
 unfold W.excIn at q
 split at q
 ·rename_i dd cd sl ho
  split at q
  ·rename_i C' bm k0 k1 k2 k3 n k5 hm hs
   simp only [abm,acn,Bool.not_eq_true'] at q
   obtain⟨⟨⟨⟨⟨rfl,rfl⟩,UJ⟩,ht⟩,iK⟩,Wr⟩:=q
   obtain⟨nm,bs,mro,ns,qn,hd,sn,sub,ab,col,del⟩:=cd
   dsimp only at hm UJ iK Wr
   subst hm UJ
   have Ws:sl=#[k0,k1,k2,k3,some (.builtin n),k5]:=by
    obtain⟨l⟩:=sl
    simp only at hs
    rw[hs]
   subst Ws
   exact⟨bm,ns,nm,qn,bs,hd,sn,sub,ab,col,dd,k0,k1,k2,k3,k5,_,X _ _ ho,.of_isNs (W.isNs_of_in X iK),W.nsMap_none_of_in X iK Wr,W.tail_of_in X ht⟩
  ·cases q
 ·cases q
theorem ki{EX:XK}{x:Str}{a:Expr}{ta:TE}{np kX pos:Pos}(b:Bx X EX)(O:Exc X.K X.mg x C)(hg:Gl X x)(ha:PE X a ta)
  (G1:(x ==("__debug__":Str))=false:=by decide) (hs:starEach [a] X.env=[(false,eval a X.env)]:=by rfl):PS X (.Raise (some (.Call (.Name x np) [a] [] kX)) none pos) (Qh C EX ta):=by
 intro c_ s Z H D I h
 obtain⟨bm,N,nm,q,bs,hdct,sn,sub,ab,col,dd,k0,k1,k2,k3,k5,mN,hC,hN,Wr,T⟩:=MV I.ok.mod.RZ O.q
 refine wpAny_Raise_call_subT (C:=C) (nm:=nm) (q:=q) (N:=N) (bs:=bs) (bm:=bm) (hdct:=hdct) (sn:=sn) (sub:=sub) (ab:=ab) (col:=col) (dd:=dd) (k0:=k0) (k1:=k1) (k2:=k2) (k3:=k3) (k5:=k5)
  PySem.F.excBase_ValueError (mN:=mN) (T.hasType (by decide)) (I.ok.hd b.calm) (by rw[hs];rfl) Wr (uS I hg O.m ⟨rfl,?_⟩ G1)
 rw[hs]
 refine abK ?_
 refine abx (i3 (ha c_ s Z H _ I h) λu s1 iH=>?_)
 obtain⟨y,H1,I1,r1,q1⟩:=iH
 refine abN ?_
 have hk:=I1.bk
 refine⟨rfl,by show 1<=sizeLine;decide,hk _ _ hC,hN.keeps hk,T.keeps hk,λh' e hm=>?_⟩
 exact b.xe _ _ (i3 (Gp I1 b.bd hm) λ_ Jp F=>⟨e,C,H1,rfl,F,q1⟩)
end
section
variable{P:Program}{w:World}{K:Qqy}{mg:Qqx}{base:Heap}
theorem xT.ok1{x qual:Str}{st:Stmt}{f:Addr}{fd:FuncData}{N ps:List Str}{k:Nat}{sp:Sp}(F:xT K x qual st f fd)(S:gw N ps (gb st))(len:∀vs H Q E,sp vs H Q E->vs.length=ps.length)
  (wk:∀(ju:Value)(A:Around)(outer:List Env)(s:Shared)(H:Hp)(vs:List V)(Q:VK)(E:XK),kD k (A.deeper (envOfC qual (gb st) s.heap.objs.size f ju))->sp vs H Q E->
   ∃t,FL (wF (tT P w) P w K mg base N qual (gb st) f ju A outer s H E) (lg st) t/\t {nx:=λ_ H'=>Q .jc H',rt:=Q} (start N vs) H):ig P w K mg base (tT P w) (k+1) f fd ps sp:=by
 obtain⟨oc,od,kV,doc,pm,an,ju,ct,JA,rfl,lk,Cn⟩:=F.ex
 exact Oy lk Cn S len λA outer s H vs Q E hr Mp=>wk ju A outer s H vs Q E hr Mp
theorem ig.FP{k:Nat}{f:Addr}{fd:FuncData}{ps:List Str}{sp:Sp}(F:ig P w K mg base (tT P w) k f fd ps sp):ig P w K mg base mK k f fd ps (λvs H Q _=>sp vs H Q E0):=
 ⟨λvs H Q E h=>F.len vs H Q E0 h,λA outer s H args us vs Q E hr e0 hb hv hs=>codeAny_mono (F.run A outer s H args us vs Q E0 hr e0 hb hv hs) λr s' h=>by
  cases r with
  | error e=>obtain⟨_,_,_,_,_,z⟩:=h;exact z
  | ok fl=>cases fl<;>exact h⟩
end
section
variable{X:Cx}
def PF(X:Cx)(k:Nat)(es:List Expr)(t:TE):Prop:=
 ∀(acc:Str)(c_:Qqz)(s:Shared)(Z:St)(H:Hp)(Q:VK),acc.length<=k*1048576->Inv X c_ Z H s->t Z H Q->wpAny (model X.prog X.w) X.A (joinParts acc (evalEach es X.env)) (EP X c_ Z Q) X.xe s
def tFn:TE:=λ_ H Q=>∀x,Q (.str x) H
def tFc(te t:TE):TE:=λZ H Q=>te Z H λv H1=>∃y,v=.str y/\y.length<=1048576/\t Z H1 Q
theorem nN{k:Nat}(hk:k<=8:=by decide):PF X k [] tFn:=λacc c_ s Z H Q hl I h=>
 joinParts_nil (hsz:=by have:sizeLine=16777216:=rfl;omega) ⟨.str acc,H,I.tok _,⟨_,rfl⟩,h acc⟩
theorem iq{k:Nat}{e:Expr}{es:List Expr}{te t:TE}(he:PE X e te)(hr:PF X (k+1) es t)(hk:k<=7:=by decide)(hs:evalEach (e::es) X.env=eval e X.env::evalEach es X.env:=by rfl):PF X k (e::es) (tFc te t):=by
 intro acc c_ s Z H Q hl I h
 rw[hs]
 refine joinParts_cons (i3 (he c_ s Z H _ I h) λu s1 iH=>?_)
 obtain⟨v,H1,I1,r1,y,ev,hy,q⟩:=iH
 subst ev
 obtain⟨t',rfl⟩:=r1
 have e1:(acc++y).length=acc.length+y.length:=strLen_append ..
 exact⟨by rw[e1];have:sizeLine=16777216:=rfl;omega,hr (acc++y) c_ s1 Z H1 Q (by rw[e1];omega) I1 q⟩
theorem lN{e1 e2:Expr}{es:List Expr}{t:TE}{pos:Pos}(h:PF X 0 (e1::e2::es) t):PE X (.JoinedStr (e1::e2::es) pos) t:=λc_ s Z H Q I hq=>by
 rw[arm_eval_JoinedStr]
 exact h Str.empty c_ s Z H Q (by decide) I hq
def tFr(te:TE):TE:=λZ H Q=>te Z H λv H1=>∃x,v=.str x/\(reprText x).length<=1048576/\Q (.str (reprText x)) H1
theorem mQ{e:Expr}{te:TE}{pos:Pos}(he:PE X e te):PE X (.FormattedValue e 114 none pos) (tFr te):=by
 intro c_ s Z H Q I h
 refine wpAny_FormattedValue_repr (i3 (he c_ s Z H _ I h) λu s1 iH=>?_)
 obtain⟨v,H1,I1,r1,x,ev,hy,q⟩:=iH
 subst ev
 obtain⟨t',rfl⟩:=r1
 have hz:(reprText x).length<=sizeLine:=aam hy (by decide)
 refine wpAny_pyReprObj_str (hsz:=hz) ?_
 exact formatField_str (λt'' tk=>⟨.str (reprText x),H1,I1.tok _,⟨_,rfl⟩,q⟩) hz
end
section
variable{X:Cx}{c_:Qqz}{Z:St}{H:Hp}{s:Shared}{tg:Expr}
def zK(X:Cx)(d:Addr):Prop:=∀o u,X.H₀ d≠some (.ni o u)
theorem Kc{u:HO}(mu:Oq (some u)):(∀xs,u≠.tup xs)/\(∀o v,u≠.ni o v)/\(∀ps,u≠.Ml ps)/\∀x,u≠.own x:=by
 cases u<;>first|exact False.elim mu|exact⟨(λ_ z=>nomatch z),(λ_ _ z=>nomatch z),(λ_ z=>nomatch z),(λ_ z=>nomatch z)⟩
theorem Inv.Qi{d:Addr}{u:HO}(I:Inv X c_ Z H s)(hd:H d=some u)(mu:Oq (some u)):zK X d:=λo v z=>by
 have:=I.base.uQ d o v z
 rw[hd] at this
 exact(Kc mu).2.1 o v (aaE this)
theorem Inv.Kd{d:Addr}{u v:HO}(I:Inv X c_ Z H s)(hd:H d=some u)(nt:∀xs,u≠.tup xs)(nb:∀ps,u≠.Ml ps)(no:∀x,u≠.own x)(nf:zK X d)(new:i0 X.prog X.w (upd H d v) s.heap d v):Inv X c_ Z (upd H d v) s:=by
 have ne:∀b,H b=none->b≠d:=λb e z=>by rw[z,hd] at e;cases e
 refine⟨I.ok,I.os,I.bare,⟨I.base.keep,I.base.slot,λb o q n hx=>by rw[d_ (ne b (I.base.free b o q n hx))];exact I.base.free b o q n hx,I.base.there,λb xs q=>?_,λb o w q=>?_,λb ps q=>?_⟩,I.loc,I.cell,by rw[d_ (ne _ I.free)];exact I.free,λx c e=>by rw[d_ (ne _ (I.pz x c e))];exact I.pz x c e,λp hp=>?_,λb o e=>?_,I.len⟩
 ·have z:=I.base.qh b xs q
  have:b≠d:=λy=>by rw[y,hd] at z;exact nt xs (aaE z)
  rw[d_ this];exact z
 ·have z:=I.base.uQ b o w q
  have:b≠d:=λy=>by rw[y] at q;exact nf o w q
  rw[d_ this];exact z
 ·obtain⟨m,z⟩:=I.base.yM b ps q
  have:b≠d:=λy=>by rw[y,hd] at z;exact nb _ (aaE z)
  exact⟨m,by rw[d_ this];exact z⟩
 ·obtain⟨e1,e2,e3⟩:=I.pin p hp
  exact⟨e1,by rw[d_ (ne _ e2)];exact e2,e3⟩
 ·by_cases hb:b=d
  ·subst hb;rw[b_] at e;cases e;exact new
  ·rw[d_ hb] at e
   refine(I.iK b o e).zq (λ_ _ _ q=>q) (λc q=>?_) λc xs q=>?_
   ·have:c≠d:=λy=>by rw[y,hd] at q;exact no _ (aaE q)
    rw[d_ this];exact q
   ·have:c≠d:=λy=>by rw[y,hd] at q;exact nt _ (aaE q)
    rw[d_ this];exact q
theorem Inv.frozen{d:Addr}{u:HO}(I:Inv X c_ Z H s)(hd:H d=some u)(mu:Oq (some u)):∃o,s.heap.get? d=some o/\Inv X c_ Z (upd H d (.ni o u)) s:=by
 obtain⟨o,ho⟩:=(I.iK d u hd).ex
 obtain⟨m1,m2,m3,m4⟩:=Kc mu
 refine⟨o,ho,I.Kd hd m1 m3 m4 (I.Qi hd mu) ⟨ho,?_⟩⟩
 refine(I.iK d u hd).zq (λ_ _ _ q=>q) (λc q=>?_) λc xs q=>?_
 ·have:c≠d:=λy=>by rw[y,hd] at q;exact m4 _ (aaE q)
  rw[d_ this];exact q
 ·have:c≠d:=λy=>by rw[y,hd] at q;exact m1 _ (aaE q)
  rw[d_ this];exact q
theorem Inv.wO{d:Addr}{o:Obj}{u:HO}(I:Inv X c_ Z H s)(hd:H d=some (.ni o u))(nf:zK X d):Inv X c_ Z (upd H d u) s:=by
 refine I.Kd hd (λ_ z=>by cases z) (λ_ z=>by cases z) (λ_ z=>by cases z) nf ?_
 obtain⟨_,q⟩:=(show i0 X.prog X.w H s.heap d (.ni o u) from I.iK d _ hd)
 refine q.zq (λ_ _ _ q=>q) (λc q=>?_) λc xs q=>?_
 ·have:c≠d:=λy=>by rw[y,hd] at q;cases q
  rw[d_ this];exact q
 ·have:c≠d:=λy=>by rw[y,hd] at q;cases q
  rw[d_ this];exact q
def Tz(X:Cx)(t:TE):TE:=λZ H Q=>t Z H λv H2=>∃d o u,H2 d=some (.ni o u)/\zK X d/\Q v (upd H2 d u)
theorem Hs{e:Expr}{t:TE}(h:PE X e t):PE X e (Tz X t):=λc_ s Z H Q I hq=>
 i3 (h c_ s Z H _ I hq) λv s' ⟨x,H',I',r,d,o,u,hd,nf,q⟩=>⟨x,_,I'.wO hd nf,r,q⟩
noncomputable def Ends.XT(X:Cx)(D:Ends):Ends where
 nx:=λZ H2=>∃d o u,H2 d=some (.ni o u)/\zK X d/\D.nx Z (upd H2 d u)
 rt:=λv H2=>∃d o u,H2 d=some (.ni o u)/\zK X d/\D.rt v (upd H2 d u)
 bk:=λZ H2=>∃d o u,H2 d=some (.ni o u)/\zK X d/\D.bk Z (upd H2 d u)
 ct:=λZ H2=>∃d o u,H2 d=some (.ni o u)/\zK X d/\D.ct Z (upd H2 d u)
theorem za{st:Stmt}{t:TS}(h:PS X st t):PS X st (λD Z H=>t (D.XT X) Z H):=λc_ s Z H D I hq=>i3 (h c_ s Z H _ I hq) λf s' q=>by
 cases f with
 | next=>obtain⟨Z',H',I',d,o,u,hd,nf,q⟩:=q;exact⟨Z',_,I'.wO hd nf,q⟩
 | brk=>obtain⟨Z',H',I',d,o,u,hd,nf,q⟩:=q;exact⟨Z',_,I'.wO hd nf,q⟩
 | cont=>obtain⟨Z',H',I',d,o,u,hd,nf,q⟩:=q;exact⟨Z',_,I'.wO hd nf,q⟩
 | ret v=>obtain⟨x,Z',H',I',r,d,o,u,hd,nf,q⟩:=q;exact⟨x,Z',_,I'.wO hd nf,r,q⟩
theorem CI{H:Hp}{d p:Addr}{u f o:HO}(hd:H d=some u)(hp:p≠d):upd (upd (upd H d f) p o) d u=upd H p o:=by
 funext b
 by_cases h1:b=d
 ·subst h1;rw[b_,d_ (ab0 hp),hd]
 ·rw[d_ h1]
  by_cases h2:b=p
  ·subst h2;rw[b_,b_]
  ·rw[d_ h2,d_ h2,d_ h1]
theorem wQ{H:Hp}{d:Addr}{u f:HO}(hd:H d=some u):upd (upd H d f) d u=H:=by
 rw[My]
 funext b
 by_cases h1:b=d
 ·subst h1;rw[b_,hd]
 ·rw[d_ h1]
noncomputable def R5(d:Addr)(o:Obj)(kvs:List (Key×V)):It:=
 ⟨λi H=>H d=some (.ni o (.dK kvs))/\i<kvs.length,λi H x H'=>H'=H/\∃k v,kvs[i]?=some (k,v)/\x=kV k,λi H=>H d=some (.ni o (.dK kvs))/\kvs.length<=i⟩
theorem MW{P:Program}{w:World}{k:Key}{u:Value}(h:(jd P w).is k u=true):RelV (kV k) u:=by
 rcases jo (show zp k u=true from h) with⟨i,t,rfl,rfl⟩|⟨x,t,rfl,rfl⟩
 ·exact⟨t,rfl⟩
 ·exact⟨t,rfl⟩
theorem Ke{P:Program}{w:World}{h:Heap}{d:Addr}{o:Obj}{kvs:List (Key×V)}{es:Array DictEntry}{ep:Nat}(hd:o.data=.dict es ep)(q:i0 P w H h d (.ni o (.dK kvs))):(d ==sysModules)=false/\kvs.length<=sizeLine/\∃vs,KV kvs vs/\h.DictAt (jd P w) d vs ep:=by
 obtain⟨ho,hz,hs,vs,kv,o',Sf,OS,qf,h1,h2,h3⟩:=q
 rw[ho] at qf;cases qf
 rw[hd] at h2;cases h2
 exact⟨hs,hz,vs,kv,o,es,ho,h1,hd,h3⟩
theorem KV.at{Z:Type}{kvs:List (Z×V)}{vs:List (Z×Value)}(r:KV kvs vs):∀{i:Nat} {k:Z} {u:Value},vs[i]?=some (k,u)->∃v,kvs[i]?=some (k,v)/\RelV v u:=by
 induction r with
 | nil=>intro i k u e;simp at e
 | cons f t ih=>
  intro i k u e
  cases i with
  | zero=>
   simp at e
   subst e
   exact⟨_,abd some (Prod.ext f.1 rfl),f.2⟩
  | succ i=>
   obtain⟨v,h1,h2⟩:=ih (by simpa using e)
   exact⟨v,by simpa using h1,h2⟩
theorem IB{P:Program}{w:World}{K:Qqy}(d it:Addr)(o:Obj)(es:Array DictEntry)(ep:Nat)(kvs:List (Key×V))(LQ:o.data=.dict es ep):Turn P w K tg (R5 d o kvs) [it] it (λi h=>h.IsKeyIter it d i kvs.length ep) where
 mem:=by simp
 obj:=λi h st b hb=>by
  have e:b=it:=by simpa using hb
  subst e
  obtain⟨o,e,c,d⟩:=st
  exact⟨o,e,λv z=>by rw[d] at z;cases z⟩
 keep:=λi h h' st k=>st.at λo e=>k it (by simp) o e
 item:=by
  intro X hP hw hK hc i c_ s Z H E I hf st hg
  subst hP hw hK
  obtain⟨hd,hi⟩:=hg
  obtain⟨_,_,vs,kv,da⟩:=Ke LQ (I.iK d _ hd)
  have hl:kvs.length=vs.length:=kv.length
  have By:i<vs.length:=by omega
  obtain⟨⟨k,u⟩,hx⟩:∃p,vs[i]?=some p:=⟨vs[i],by simp[By]⟩
  obtain⟨v,hv,_⟩:=kv.at hx
  obtain⟨f0,f1,f2,f3,f4,f5⟩:=hf it (by simp)
  rw[hl] at st
  refine wpAny_pyNext_dict_item st da hx λkey h' Rc yJ sb=>?_
  have I1:Inv X c_ Z H {s with heap:=h'}:=I.turned (t':=s.toks) (λb o hb e=>(sb.2 b hb).trans e) f0 f1 f3 f4 f5
  obtain⟨o',e,c,dd⟩:=id yJ
  exact⟨key,rfl,zt (s:={s with heap:=h'}) e c dd (by decide) ⟨kV k,H,I1,MW Rc,⟨rfl,k,v,hv,rfl⟩,by rw[hl];exact yJ,λb hb=>(hf b hb).1⟩⟩
 done:=by
  intro X hP hw hK hc i c_ s Z H E I hf st hg
  subst hP hw hK
  obtain⟨hd,hi⟩:=hg
  obtain⟨_,_,vs,kv,da⟩:=Ke LQ (I.iK d _ hd)
  have hl:kvs.length=vs.length:=kv.length
  obtain⟨f0,f1,f2,f3,f4,f5⟩:=hf it (by simp)
  rw[hl] at st
  exact wpAny_pyNext_dict_end (I.ok.hd hc) st da (by simp;omega) λh' eb=>⟨rfl,I.turned (t':=s.toks) (λb o hb e=>eb b o hb e) f0 f1 f3 f4 f5⟩
 self:=λ_ _ _ _ _ st h=>wpAny_pyIter_keyiter st h
def TB(X:Cx)(td:TE):TI:=λZ H R=>td Z H λx H1=>∃d kvs,x=.ref d/\H1 d=some (.dK kvs)/\∀o,zK X d->R (R5 d o kvs) (upd H1 d (.ni o (.dK kvs)))
theorem CJ{l:Expr}{td:TE}(hl:PE X l td):PI X tg l (TB X td):=by
 intro c_ s Z H R I h
 refine i3 (hl c_ s Z H _ I h) λv s1 iH=>?_
 obtain⟨x,H1,I1,r1,q1⟩:=iH
 obtain⟨d,kvs,e,hd,q⟩:=q1
 subst e
 cases r1
 have nf:=I1.Qi hd True.intro
 obtain⟨o,ho,I2⟩:=I1.frozen hd True.intro
 obtain⟨_,hs,vs,kv,o',es,ep,qf,h1,h2,h3⟩:=(show i0 X.prog X.w H1 s1.heap d (.dK kvs) from I1.iK d _ hd)
 rw[ho] at qf;cases qf
 refine wpAny_pyIter_dict (kvs:=vs) (ep:=ep) hs ⟨o,es,ho,h1,h2,h3⟩ ?_
 refine⟨s1.heap.objs.size,[s1.heap.objs.size],_,_,_,rfl,I2.kept (t':=s1.toks) λb o e=>aaB _ e,IB d _ o es ep kvs h2,⟨_,aaN _ rfl,rfl,by rw[kv.length];rfl⟩,λb hb=>?_,q o nf⟩
 have e:b=s1.heap.objs.size:=by simpa using hb
 subst e
 exact I2.zr (XU _) (I2.iK.fresh (XU _))
theorem Kf{d:Addr}{o:Obj}{kvs:List (Key×V)}{g:TG}{tb:TS}{D:Ends}{Z:St}{H:Hp}(Pv:Nat->St->Hp->Prop)(h0:Pv 0 Z H)(hl:∀i Z H,Pv i Z H->H d=some (.ni o (.dK kvs)))
  (hs:∀i k v Z H,kvs[i]?=some (k,v)->Pv i Z H->g (kV k) Z H λZ2 H2=>tb {D with nx:=Pv (i+1),ct:=Pv (i+1),bk:=D.nx} Z2 H2) (hd:∀Z H,Pv kvs.length Z H->D.nx Z H) :
  ∃W:Nat->Nat->St->Hp->Prop,(∃m,W 0 m Z H)/\∀i m Z H,W i m Z H->
   ((R5 d o kvs).stop i H/\D.nx Z H)\/((R5 d o kvs).go i H/\∃N:St->Hp->Prop,(∀Z' H',N Z' H'->∃m',m'<m/\W (i+1) m' Z' H')/\∀x H',(R5 d o kvs).JJ i H x H'->g x Z H' λZ2 H2=>tb {D with nx:=N,ct:=N,bk:=D.nx} Z2 H2):=by
 refine⟨λi m Z H=>m=kvs.length-i/\i<=kvs.length/\Pv i Z H,⟨kvs.length,by simp,aaY _,h0⟩,?_⟩
 rintro i m Z H ⟨rfl,hi,p⟩
 have q:=hl i Z H p
 by_cases j3:i<kvs.length
 ·refine .inr ⟨⟨q,j3⟩,Pv (i+1),λZ' H' p'=>⟨kvs.length-(i+1),by omega,rfl,j3,p'⟩,λx H' y=>?_⟩
  obtain⟨e,k,v,y,rfl⟩:=y
  subst e
  exact hs i k v Z _ y p
 ·have e:i=kvs.length:=by omega
  subst e
  exact .inl ⟨⟨q,XU _⟩,hd Z H p⟩
theorem Ht{d:Addr}{o:Obj}{kvs:List (Key×V)}{g:TG}{tt:TT}{te:TE}{Q:List V->Hp->Prop}{Z:St}{H:Hp}(hn:kvs.length<=sizeLine)(Pv:Nat->List V->St->Hp->Prop)(h0:Pv 0 [] Z H)(hl:∀i ys Z H,Pv i ys Z H->H d=some (.ni o (.dK kvs))/\ys.length<=i)
  (hs:∀i k v ys Z H,kvs[i]?=some (k,v)->Pv i ys Z H->g (kV k) Z H λZ2 H2=>tt Z2 H2 λb H3=>if b=true then te Z2 H3 λv H4=>Pv (i+1) (ys++[v]) Z2 H4 else Pv (i+1) ys Z2 H3)
  (hd:∀ys Z H,Pv kvs.length ys Z H->Q ys H):IA g tt te (R5 d o kvs) Q Z H:=by
 refine⟨λi m ys Z H=>m=kvs.length-i/\i<=kvs.length/\Pv i ys Z H,⟨kvs.length,by simp,aaY _,h0⟩,?_⟩
 rintro i m ys Z H ⟨rfl,hi,p⟩
 obtain⟨q,hy⟩:=hl i ys Z H p
 by_cases j3:i<kvs.length
 ·refine .inr ⟨⟨q,j3⟩,by omega,Pv (i+1),λSj Z' H' p'=>⟨kvs.length-(i+1),by omega,rfl,j3,p'⟩,λx H' y=>?_⟩
  obtain⟨e,k,v,y,rfl⟩:=y
  subst e
  exact hs i k v ys Z _ y p
 ·have e:i=kvs.length:=by omega
  subst e
  exact .inl ⟨⟨q,XU _⟩,by omega,hd ys Z H p⟩
theorem pF{Z Y:Type}{F:Z->Y->Prop}:∀{xs:List Z} {ys:List Y},xs.length=ys.length->(∀(i:Nat) a b,xs[i]?=some a->ys[i]?=some b->F a b)->Paired F xs ys
 | [],[],_,_=>.nil
 | [],_::_,e,_=>by simp at e
 | _::_,[],e,_=>by simp at e
 | x::xs,y::ys,e,h=>.cons (h 0 x y rfl rfl) (pF (by simpa using e) λi a b ha hb=>h (i+1) a b (by simpa using ha) (by simpa using hb))
end
section
variable{X:Cx}{CX:Hl}{k:Nat}{f C:Addr}{fd:FuncData}{ps:List Str}{sp:Sp}{zm:List V}{ds:List Value}{E:XK}{x m:Str}{p pos apos:Pos}{e o:Expr}{es:List Expr}{ta:TE}{t:TA}{Z₀:St}
end
section
variable{X:Cx}{c_ pn:Qqz}{Z:St}{H:Hp}{s:Shared}{E:Qqq}{e:Addr}
end
section
variable{X:Cx}{c_:Qqz}{Z:St}{H:Hp}{s:Shared}{M:Model}{A:Around}{E:Qqq}
end
section
variable{P:Program}{w:World}{K:Qqy}{mg:Qqx}{base:Heap}
end
section
variable{X:Cx}{k:Nat}{f:Addr}{fd:FuncData}{ps:List Str}{sp:Sp}{x:Str}{p pos:Pos}{e:Expr}{es:List Expr}{t:TA}
end
open PySem PySem.Spec PyProof.Rows PySem.W PySem.Builtin PySem.Builtin.ObjectAttr PySem.Builtin.Getset_descriptor
section
variable{K:Qqy}{e C:Addr}{prog:Program}{w:World}{A:Around}{E:Qqq}{h:Heap}{g:Array GenState}{d:Drawn}{t:Nat}{os:OsState}
end
theorem jM{xs:List V}(h:xs.length<=15:=by simp):xs.length<=sizeLine:=aam h (by decide)
theorem gs{Z:Type}{xs:List Z}{i:Int}{j:Nat}{v:Z}(e:i=(j:Int))(h:xs[j]?=some v):Gf xs i=some v:=by subst e;exact MH h
theorem wR{n:Nat}{i:Int}{j:Nat}(e:i=(j:Int))(h:j<n):JQ n i=some j:=by
 subst e
 unfold JQ
 rw[aax (by omega),aax (by omega)]
 simp
theorem gh.upd{H H':Hp}{p:Addr}{o:HO}(s:gh H H')(h:H p=none):gh H (L2.upd H' p o):=λb u e=>by rw[d_ (gg e h)];exact s b u e
theorem gh.new{H H':Hp}{p:Addr}{o:HO}(s:gh H H')(h:H' p=none):gh H (L2.upd H' p o):=s.upd (s.free h)
def XW(t:TS):TS:=λD Z H=>∃J:St->Hp->Prop,t {D with nx:=J} Z H/\∀Z' H',J Z' H'->D.nx Z' H'
theorem SP.nx{X:Cx}{c_:Qqz}{D:Ends}{J:St->Hp->Prop}{f:Flow}{s:Shared}(hJ:∀Z' H',J Z' H'->D.nx Z' H')(h:SP X c_ {D with nx:=J} f s):SP X c_ D f s:=by
 cases f with
 | next=>obtain⟨Z,H,I,q⟩:=h;exact⟨Z,H,I,hJ _ _ q⟩
 | brk=>exact h
 | cont=>exact h
 | ret u=>exact h
theorem qk{X:Cx}{st:Stmt}{t:TS}(h:PS X st t):PS X st (XW t):=λc_ s Z H D I ⟨J,h1,h2⟩=>i3 (h c_ s Z H _ I h1) λf s' q=>SP.nx h2 q
theorem rJ{Z:Type}{xs:List Z}{i:Int}(h0:0<=i)(h:i<(xs.length:Int)):∃v,Gf xs i=some v/\xs[i.toNat]?=some v:=by
 have hi:i.toNat<xs.length:=by omega
 exact⟨xs[i.toNat],gs (j:=i.toNat) (by omega) (UQ hi),UQ hi⟩
theorem Kg{b:Bool}{A B:Prop}(e:b=false)(h:B):if b=true then A else B:=by subst e;exact jg h
theorem Kh{b:Bool}{A B:Prop}(e:b=true)(h:A):if b=true then A else B:=by subst e;exact lK h
theorem mod_lt(a b:Int)(h:0<b):0<=a%b/\a%b<b:=⟨Int.emod_nonneg a (by omega),Int.emod_lt_of_pos a h⟩
abbrev gk(l:List Str):List V:=l.map V.str
theorem iZ(xs:List Str)(x:Str):gk xs++[V.str x]=gk (xs++[x]):=by unfold gk;rw[aaG];rfl
theorem nO(x y:List Str):gk x++gk y=gk (x++y):=by unfold gk;rw[aaG]
theorem j4{l:List Str}{j:Nat}{x:Str}(h:l[j]?=some x):(gk l)[j]?=some (V.str x):=by rw[aan,h];rfl
theorem lO{l:List Str}{j:Nat}{v:V}(h:(gk l)[j]?=some v):∃x,l[j]?=some x/\v=V.str x:=by
 rw[aan] at h
 cases e:l[j]? with
 | none=>rw[e] at h;cases h
 | some x=>rw[e] at h;cases h;exact⟨x,rfl,rfl⟩
theorem OD{A:Around}{k:Nat}(hr:kD k A){n:Nat}(h:n<=60:=by decide):A.units+n+1<cLine:=by have:=hr.units;omega
theorem hZ{H:Hp}{a q:Addr}{o u:HO}(hq:H q=none)(h:H a=some o):upd H q u a=some o:=by rw[d_ (gg h hq)];exact h
theorem Mm{t0 t1:TS}{D:Ends}{Z:St}{H:Hp}(h:let v1:=t1;iR t0 v1 D Z H):iR t0 t1 D Z H:=h
theorem FO{t0 t1 t2:TS}{D:Ends}{Z:St}{H:Hp}(h:let v2:=t2;let v1:=iR t1 v2;iR t0 v1 D Z H):iR t0 (iR t1 t2) D Z H:=h
theorem OE{t0 t1 t2 t3:TS}{D:Ends}{Z:St}{H:Hp}(h:let v3:=t3;let v2:=iR t2 v3;let v1:=iR t1 v2;iR t0 v1 D Z H):iR t0 (iR t1 (iR t2 t3)) D Z H:=h
theorem R6{t0 t1 t2 t3 t4:TS}{D:Ends}{Z:St}{H:Hp}(h:let v4:=t4;let v3:=iR t3 v4;let v2:=iR t2 v3;let v1:=iR t1 v2;iR t0 v1 D Z H):iR t0 (iR t1 (iR t2 (iR t3 t4))) D Z H:=h
theorem R7{t0 t1 t2 t3 t4 t5:TS}{D:Ends}{Z:St}{H:Hp}(h:let v5:=t5;let v4:=iR t4 v5;let v3:=iR t3 v4;let v2:=iR t2 v3;let v1:=iR t1 v2;iR t0 v1 D Z H):iR t0 (iR t1 (iR t2 (iR t3 (iR t4 t5)))) D Z H:=h
theorem sl7{t0 t1 t2 t3 t4 t5 t6:TS}{D:Ends}{Z:St}{H:Hp}(h:let v6:=t6;let v5:=iR t5 v6;let v4:=iR t4 v5;let v3:=iR t3 v4;let v2:=iR t2 v3;let v1:=iR t1 v2;iR t0 v1 D Z H):iR t0 (iR t1 (iR t2 (iR t3 (iR t4 (iR t5 t6))))) D Z H:=h
theorem sl9{t0 t1 t2 t3 t4 t5 t6 t7 t8:TS}{D:Ends}{Z:St}{H:Hp}(h:let v8:=t8;let v7:=iR t7 v8;let v6:=iR t6 v7;let v5:=iR t5 v6;let v4:=iR t4 v5;let v3:=iR t3 v4;let v2:=iR t2 v3;let v1:=iR t1 v2;iR t0 v1 D Z H):iR t0 (iR t1 (iR t2 (iR t3 (iR t4 (iR t5 (iR t6 (iR t7 t8))))))) D Z H:=h
theorem Jz{w:TI}{g:TG}{b u:TS}{D:Ends}{Z:St}{H:Hp}(h:let v:=b;iR (PU w g v) u D Z H):iR (PU w g b) u D Z H:=h
abbrev rr(a:Addr):Option V:=some (.ref a)
abbrev rs(x:Str):Option V:=some (.str x)
abbrev ri(i:Int):Option V:=some (.int i)
section
variable{X:Cx}{tg:Expr}
def R8(x:Str):It:=⟨λi _=>i<x.length,λi H v H'=>H'=H/\∃c,x.cps[i]?=some c/\v=.str ⟨#[c]⟩,λi _=>i=x.length⟩
theorem BR{P:Program}{w:World}{K:PySem.W.Frag}(it:Addr)(ty:String)(x:Str)(t:Tok)(Uw:["enumerate","zip","dict_itemiterator","dict_reverseitemiterator","odict_iterator","itertools.zip_longest","itertools.pairwise"].contains ty=false)
  (W:∀A:Around,A.handled=none->Walks P w A it [it] [it] x.cps.size (SignAt x) (λi h=>h.IsStrIter it ty x t i))
  (self:∀(A:Around)(i:Nat)(s:Shared)(Q:Qqq)(E:Qqq),s.heap.IsStrIter it ty x t i->Q (.ref it) s->wpAny (model P w) A (pyIter (.ref it)) Q E s):Turn P w K tg (R8 x) [it] it (λi h=>h.IsStrIter it ty x t i) where
 mem:=by simp
 obj:=λi h st b hb=>by
  have e:b=it:=by simpa using hb
  subst e
  obtain⟨o,e,c,d⟩:=st
  exact⟨o,e,λv z=>by rw[d] at z;cases z⟩
 keep:=λi h h' ⟨o,ho,r⟩ k=>⟨o,k it (by simp) o ho,r⟩
 item:=by
  intro X hP hw hK hc i c_ s Z H E I hf st hg
  subst hP hw hK
  obtain⟨f0,f1,f2,f3,f4,f5⟩:=hf it (by simp)
  refine(W X.A (I.ok.hd hc)).item i s _ _ hg st λv h' tk hv yJ kk=>?_
  obtain⟨c,t',Bu,rfl⟩:=hv
  have I1:Inv X c_ Z H {s with heap:=h',toks:=tk}:=I.turned (λb o hb e=>kk b o (by simpa using hb) e) f0 f1 f3 f4 f5
  obtain⟨o',e,cc,dd⟩:=id yJ
  exact⟨_,rfl,zt (s:={s with heap:=h',toks:=tk}) e cc dd Uw ⟨.str ⟨#[c]⟩,H,I1,⟨t',rfl⟩,⟨rfl,c,Bu,rfl⟩,yJ,λb hb=>(hf b hb).1⟩⟩
 done:=by
  intro X hP hw hK hc i c_ s Z H E I hf st hg
  subst hP hw hK
  obtain⟨f0,f1,f2,f3,f4,f5⟩:=hf it (by simp)
  have e:i=x.cps.size:=hg
  subst e
  exact(W X.A (I.ok.hd hc)).done s _ _ st λh' tk kk=>⟨rfl,I.turned (λb o hb e=>kk b o (by simpa using hb) e) f0 f1 f3 f4 f5⟩
 self:=self
def TC(te:TE):TI:=λZ H R=>te Z H λv H1=>∃x,v=.str x/\R (R8 x) H1
theorem Qj{l:Expr}{te:TE}(hl:PE X l te):PI X tg l (TC te):=by
 intro c_ s Z H R I h
 refine i3 (hl c_ s Z H _ I h) λv s1 iH=>?_
 obtain⟨y,H1,I1,r1,x,e,q⟩:=iH
 subst e
 obtain⟨t,rfl⟩:=r1
 have fin:∀(ty:String)(T:Turn X.prog X.w X.K tg (R8 x) [s1.heap.objs.size] s1.heap.objs.size (λi h=>h.IsStrIter s1.heap.objs.size ty x t i)),
   Xq X c_ Z tg R (.ref s1.heap.objs.size) {s1 with heap:=s1.heap.push {cls:=.type ty,data:=.fields #[.str x t,.int 0 0]}}:=λty T=>by
  refine⟨s1.heap.objs.size,[s1.heap.objs.size],_,_,H1,rfl,I1.kept (t':=s1.toks) λb o e=>aaB _ e,T,⟨_,aaN _ rfl,rfl,rfl⟩,λb hb=>?_,q⟩
  have e:b=s1.heap.objs.size:=by simpa using hb
  subst e
  exact I1.zr (XU _) (I1.iK.fresh (XU _))
 cases ha:x.cps.all (·<128)
 ·exact wpAny_pyIter_wide ha (fin _ (BR _ _ x t (by decide) (λA hh=>Walks.strWide hh _ x t) λ_ _ _ _ _ st h=>wpAny_pyIter_striter_wide st h))
 ·exact wpAny_pyIter_ascii ha (fin _ (BR _ _ x t (by decide) (λA hh=>Walks.strAscii hh _ x t) λ_ _ _ _ _ st h=>wpAny_pyIter_striter_ascii st h))
theorem Ki{x:Str}{g:TG}{tb:TS}{D:Ends}{Z:St}{H:Hp}(Pv:Nat->St->Hp->Prop)(h0:Pv 0 Z H)
  (hs:∀i c Z H,x.cps[i]?=some c->Pv i Z H->g (.str ⟨#[c]⟩) Z H λZ2 H2=>tb {D with nx:=Pv (i+1),ct:=Pv (i+1),bk:=D.nx} Z2 H2) (hd:∀Z H,Pv x.length Z H->D.nx Z H) :
  ∃W:Nat->Nat->St->Hp->Prop,(∃m,W 0 m Z H)/\∀i m Z H,W i m Z H->
   ((R8 x).stop i H/\D.nx Z H)\/((R8 x).go i H/\∃N:St->Hp->Prop,(∀Z' H',N Z' H'->∃m',m'<m/\W (i+1) m' Z' H')/\∀v H',(R8 x).JJ i H v H'->g v Z H' λZ2 H2=>tb {D with nx:=N,ct:=N,bk:=D.nx} Z2 H2):=by
 refine⟨λi m Z H=>m=x.length-i/\i<=x.length/\Pv i Z H,⟨x.length,by simp,aaY _,h0⟩,?_⟩
 rintro i m Z H ⟨rfl,hi,p⟩
 by_cases j3:i<x.length
 ·refine .inr ⟨j3,Pv (i+1),λZ' H' p'=>⟨x.length-(i+1),by omega,rfl,j3,p'⟩,λv H' y=>?_⟩
  obtain⟨e,c,hc,rfl⟩:=y
  subst e
  exact hs i c Z _ hc p
 ·have e:i=x.length:=by omega
  subst e
  exact .inl ⟨rfl,hd Z H p⟩
def tFi(te:TE):TE:=λZ H Q=>te Z H λv H1=>∃i:Int,v=.int i/\i.natAbs.log2<1920/\Q (.str (toString i)) H1
theorem Kj{e:Expr}{te:TE}{pos:Pos}(he:PE X e te):PE X (.FormattedValue e (-1) none pos) (tFi te):=by
 intro c_ s Z H Q I h
 refine FormattedValue_plain (i3 (he c_ s Z H _ I h) λu s1 iH=>?_)
 obtain⟨v,H1,I1,r1,i,ev,hy,q⟩:=iH
 subst ev
 obtain⟨t',rfl⟩:=r1
 exact formatField_int_small hy ⟨.str (toString i),H1,I1.tok _,⟨_,rfl⟩,q⟩
end
section
variable{X:Cx}{tg:Expr}
def Kk(K:Qqy)(a:Addr)(n:Nat):It:=
 ⟨λi H=>i<n/\∃xs,gC K H a xs/\xs.length=n,λi H x H'=>H'=H/\∀xs,gC K H a xs->xs[n-1-i]?=some x,λi _=>i=n⟩
theorem Kl{P:Program}{w:World}{K:Qqy}(a it:Addr)(n:Nat):Turn P w K tg (Kk K a n) [it] it (λi h=>h.IsRevIter it a ((n:Int)-1-(i:Nat))) where
 mem:=by simp
 obj:=λi h st b hb=>by
  have e:b=it:=by simpa using hb
  subst e
  obtain⟨o,e,c,d⟩:=st
  exact⟨o,e,λv z=>by rw[d] at z;cases z⟩
 keep:=λi h h' st k=>st.at λo e=>k it (by simp) o e
 item:=by
  intro X hP hw hK hc i c_ s Z H E I hf st hg
  subst hP hw hK
  obtain⟨hi,xs,hq,hl⟩:=hg
  obtain⟨hE,rv,p,hz⟩:=I.list hq
  have hx:xs[n-1-i]?=some xs[n-1-i]:=UQ (by omega)
  obtain⟨u,hu,ru⟩:=rv.get hx
  obtain⟨f0,f1,f2,f3,f4,f5⟩:=hf it (by simp)
  have e1:(n:Int)-1-(i:Nat)=((n-1-i:Nat):Int):=by omega
  rw[e1] at st
  refine wpAny_pyNext_rev_item st p.isList (x:=u) (by simpa using hu) λh' yJ sb=>?_
  have e2:((n-1-i:Nat):Int)-1=(n:Int)-1-((i+1:Nat):Int):=by omega
  rw[e2] at yJ
  have I1:Inv X c_ Z H {s with heap:=h'}:=I.turned (t':=s.toks) (λb o hb e=>(sb.2 b hb).trans e) f0 f1 f3 f4 f5
  obtain⟨o,e,c,d⟩:=id yJ
  exact⟨u,rfl,zt (s:={s with heap:=h'}) e c d (by decide) ⟨_,H,I1,ru,⟨rfl,λys hy=>by rw[I.pA hy hq];exact hx⟩,yJ,λb hb=>(hf b hb).1⟩⟩
 done:=by
  intro X hP hw hK hc i c_ s Z H E I hf st hg
  subst hP hw hK
  have hg:i=n:=hg
  subst hg
  obtain⟨f0,f1,f2,f3,f4,f5⟩:=hf it (by simp)
  have e1:(i:Int)-1-(i:Nat)=-1:=by omega
  rw[e1] at st
  exact wpAny_pyNext_rev_end (I.ok.hd hc) st λh' eb=>⟨rfl,I.turned (t':=s.toks) (λb o hb e=>eb b o hb e) f0 f1 f3 f4 f5⟩
 self:=λ_ _ _ _ _ st h=>wpAny_pyIter_revIter st h
def TF(K:Qqy)(ta:TA):TI:=λZ H R=>ta Z H λvs H1=>∃a xs,vs=[.ref a]/\gC K H1 a xs/\R (Kk K a xs.length) H1
theorem MX{a:Expr}{ta:TA}{p pos:Pos}(hg:Gl X "reversed")(hm:X.mg "reversed"=none)(ha:PA X [a] ta)(hs:starEach [a] X.env=[(false,eval a X.env)]:=by rfl):PI X tg (.Call (.Name "reversed" p) [a] [] pos) (TF X.K ta):=by
 intro c_ s Z H R I h
 refine Call_ (oZ I hg hm boot_reversed (abg (i3 (ha pos c_ s Z H _ I h) λus s1 iH=>?_) hs rfl))
 obtain⟨vs,H1,I1,r1,q1⟩:=iH
 obtain⟨l,xs,rfl,hq,q⟩:=q1
 obtain⟨u,rfl,ru⟩:=vals1 r1
 cases (show u=Value.ref l from ru)
 obtain⟨hE,rv,pp,hz⟩:=I1.list hq
 have hl:=rv.length
 refine call_reversed_list pp.isList ?_
 have I2:Inv X c_ Z H1 {s1 with heap:=s1.heap.push (revObj l ((hE.toArray.size:Int)-1))}:=I1.kept (t':=s1.toks) λb o e=>aaB _ e
 have st:(s1.heap.push (revObj l ((hE.toArray.size:Int)-1))).IsRevIter s1.heap.objs.size l ((xs.length:Int)-1-((0:Nat):Int)):=by
  have e1:(xs.length:Int)-1-((0:Nat):Int)=(hE.toArray.size:Int)-1:=by rw[hl];simp
  rw[e1]
  exact⟨_,aaN _ rfl,rfl,rfl⟩
 refine wpAny_pyIter_revIter st ?_
 refine⟨s1.heap.objs.size,[s1.heap.objs.size],_,_,H1,rfl,I2,Kl l _ xs.length,st,λb hb=>?_,q⟩
 have e:b=s1.heap.objs.size:=by simpa using hb
 subst e
 exact I1.zr (XU _) (I1.iK.fresh (XU _))
theorem MY{K:PySem.W.Frag}{a:Addr}{xs:List V}{g:TG}{tb:TS}{D:Ends}{Z:St}{H:Hp}(Pv:Nat->St->Hp->Prop)(h0:Pv 0 Z H)(hl:∀i Z H,i<=xs.length->Pv i Z H->gC K H a xs)
  (hs:∀i x Z H,xs.reverse[i]?=some x->Pv i Z H->g x Z H λZ2 H2=>tb {D with nx:=Pv (i+1),ct:=Pv (i+1),bk:=D.nx} Z2 H2) (hd:∀Z H,Pv xs.length Z H->D.nx Z H) :
  ∃W:Nat->Nat->St->Hp->Prop,(∃m,W 0 m Z H)/\∀i m Z H,W i m Z H->
   ((Kk K a xs.length).stop i H/\D.nx Z H)\/((Kk K a xs.length).go i H/\∃N:St->Hp->Prop,(∀Z' H',N Z' H'->∃m',m'<m/\W (i+1) m' Z' H')/\∀x H',(Kk K a xs.length).JJ i H x H'->g x Z H' λZ2 H2=>tb {D with nx:=N,ct:=N,bk:=D.nx} Z2 H2):=by
 refine⟨λi m Z H=>m=xs.length-i/\i<=xs.length/\Pv i Z H,⟨xs.length,by simp,aaY _,h0⟩,?_⟩
 rintro i m Z H ⟨rfl,hi,p⟩
 have q:=hl i Z H hi p
 by_cases j3:i<xs.length
 ·refine .inr ⟨⟨j3,xs,q,rfl⟩,Pv (i+1),λZ' H' p'=>⟨xs.length-(i+1),by omega,rfl,j3,p'⟩,λx H' y=>?_⟩
  obtain⟨e,y⟩:=y
  subst e
  refine hs i x Z _ ?_ p
  rw[List.getElem?_reverse j3]
  exact y xs q
 ·have e:i=xs.length:=by omega
  subst e
  exact .inl ⟨rfl,hd Z H p⟩
theorem Km{prog:Program}{w:World}{A:Around}{E:Qqq}{s:Shared}{r:Addr}{Q:Bool->Shared->Prop}(hT:s.TypeIs (.ref r) "list_reverseiterator")(h:Q false s):wpAny (model prog w) A (Builtin.List.listLengthHint (.ref r)) Q E s:=by
 have f1:typeLookup (.type "list_reverseiterator") "__len__"=pure none:=by rw[typeLookup_type,builtinLookup_eq_fast];kernel_rfl
 have f2:typeLookup (.type "list_reverseiterator") "__length_hint__"=pure (some (.builtin "list_reverseiterator.__length_hint__")):=by rw[typeLookup_type,builtinLookup_eq_fast];kernel_rfl
 unfold Builtin.List.listLengthHint
 refine UU (acu hT f1 ?_)
 wp_delta
 refine acv (λG3=>absurd G3 (by decide)) (λ_=>?_)
 refine acv (λG3=>absurd G3 (by decide)) (λ_=>?_)
 refine UU (acu hT f2 ?_)
 generalize nj:("list_reverseiterator.__length_hint__":String)=id0
 wp_delta
 rw[show splitId id0=some ("list_reverseiterator","__length_hint__") from by subst nj;decide+kernel]
 subst nj
 refine UU (wpAny_isInstance (T:="list_reverseiterator") (b:=true) hT (by rw[isSubtype_type];kernel_rfl) ?_)
 refine acv (λG3=>absurd G3 (by decide)) (λ_=>?_)
 refine acv (λ_=>?_) (λG3=>absurd (by decide+kernel) G3)
 refine acv (λG3=>absurd G3 (by decide)) (λ_=>?_)
 exact aay h
theorem IC{prog:Program}{w:World}{A:Around}{E:Qqq}{s:Shared}{T:String}{r d:Addr}{n:Nat}{P:Nat->Value->Prop}{St:Nat->Heap->Prop}{Q:Qqq}
  (W:Walks prog w A.in1.in1 r [r,d] [r] n P St) (hT:∀h:Heap,St 0 h->∃o,h.get? r=some o/\o.cls=.type T) (hl:(Value.type T ==Value.type "list")=false) (ht:(Value.type T ==Value.type "tuple")=false)
  (hint:∀(A:Around)(E:Qqq)(s:Shared)(Q:Bool->Shared->Prop),St 0 s.heap->Q false s->wpAny (model prog w) A (Builtin.List.listLengthHint (.ref r)) Q E s)
  (self:∀(A:Around)(E:Qqq)(s:Shared)(Q:Qqq),St 0 s.heap->Q (.ref r) s->wpAny (model prog w) A (pyIter (.ref r)) Q E s)
  (hd:d<s.heap.objs.size) (st:St 0 s.heap) (hn:n<=sizeLine)
  (hQ:∀h' tk N2 c',(∀b o,b≠r->s.heap.get? b=some o->h'.get? b=some o)->h'.get? s.heap.objs.size=some {cls:=.type "list",dict:=none,data:=.seq N2 c',slots:=#[]}->ItemsOf P N2 n->Q (.ref s.heap.objs.size) {s with heap:=h',toks:=tk}) :
  wpAny (model prog w) A (call (.type "list") [.ref r]) Q E s:=by
 obtain⟨or,YD,hcr⟩:=hT _ st
 have Dx:r<s.heap.objs.size:=aaJ YD
 refine callType_codes (Q₁:=λobj s1=>obj=.ref s.heap.objs.size/\s1={s with heap:=s.heap.push {cls:=.type "list",data:=.seq #[]}}) PySem.F.called_list (PySem.F.typeCall_list_1 _) PySem.F.entry_list_init
  (code_list_new _ ⟨rfl,rfl⟩) λobj s1 h₁=>?_
 obtain⟨rfl,rfl⟩:=h₁
 have hS:(s.heap.push {cls:=.type "list",data:=.seq #[]}).get? s.heap.objs.size=some {cls:=.type "list",data:=.seq #[]}:=aaN _ rfl
 have YE:s.heap.objs.size≠r:=Nat.ne_of_gt Dx
 have hSd:s.heap.objs.size≠d:=Nat.ne_of_gt hd
 refine⟨⟨_,hS,rfl⟩,PySem.F.args_list_init_2 _ _,?_⟩
 show wpAny _ _ (do let old <-Builtin.List.listItems (.ref s.heap.objs.size);Builtin.List.listUpdate (.ref s.heap.objs.size) (λ_=>#[]);letGo old.toList.reverse;Builtin.List.listExtendWith (.ref s.heap.objs.size) (.ref r) .none) _ _ _
 refine UU ?_
 unfold Builtin.List.listItems
 refine UU (wpAny_seqItems hS rfl (aay ?_))
 show wpAny _ _ (updateSeq s.heap.objs.size (λ_=>#[]) >>= λ_=>letGo (#[]:Array Value).toList.reverse >>= λ_=>Builtin.List.listExtendWith (.ref s.heap.objs.size) (.ref r) .none) _ _ _
 refine UU (wpAny_updateSeq hS rfl ?_)
 have Wt:=abo (Obj.mapSeq (λ_=>(#[]:Array Value))) hS rfl
 have Kn:∀b o,s.heap.get? b=some o->((s.heap.push {cls:=.type "list",data:=.seq #[]}).update s.heap.objs.size (Obj.mapSeq (λ_=>(#[]:Array Value)))).get? b=some o:=
  λb o e=>(ab6 _ _ (Nat.ne_of_gt (aaJ e))).trans (aaB _ e)
 refine UU (wpAny_letGo ?_)
 generalize (s.heap.push {cls:=.type "list",data:=.seq #[]}).update s.heap.objs.size (Obj.mapSeq (λ_=>(#[]:Array Value)))=h2 at Wt Kn
 have Bv:St 0 h2:=W.frame 0 _ _ st λb _ o e=>Kn b o e
 have key:∀(h:Heap)(c1 tk:Nat),St 0 h->(∀b o,s.heap.get? b=some o->h.get? b=some o)->
   h.get? s.heap.objs.size=some {cls:=.type "list",data:=.seq #[] c1}->codeAny (model prog w) A.in1 (.builtin "list.extend.loop" ⟨[.ref s.heap.objs.size,.ref r,.none],[]⟩)
    (λr s'=>match r with|.ok (.ret v)=>v=.none/\Q (.ref s.heap.objs.size) s'|.ok _=>False|.error e=>E e s') {s with heap:=h,toks:=tk}:=by
  intro h c1 tk uG hk hS1
  refine codeAny_extend_loopS W.toS hn s.heap.objs.size (by simp only [aag,ack,or_false,not_or];exact⟨YE,hSd⟩) .none n 0 _ #[] c1 rfl (aaY _) uG hS1 (ItemsOf.nil _) λs' N2 c' hm hS' AI=>?_
  rw[Moved.eq_with hm]
  refine⟨rfl,hQ s'.heap s'.toks N2 c' (λb o hb e=>hm.heap b o (λqR=>?_) (hk b o e)) hS' AI⟩
  rcases aag.mp qR with e'|qR
  ·exact absurd (aaJ e) (by rw[e'];exact abu _)
  ·exact hb (XS.mp qR)
 unfold Builtin.List.listExtendWith
 refine UU (wpAny_typeOf (T:=T) (hT _ Bv) ?_)
 have h1:Builtin.List.listSameRef (.ref s.heap.objs.size) (.ref r)=false:=by simp[Builtin.List.listSameRef,YE]
 simp only [h1,hl,ht,Bool.or_false,aa9,aca]
 refine UU (self _ _ _ _ Bv ?_)
 refine UU (abS (hint _ _ _ _ Bv ?_))
 refine acv (λ_=>?_) (λ_=>aay ⟨plainId_quiet PySem.F.plain_extend_loop _,key _ _ _ Bv Kn Wt⟩)
 refine UU (wpAny_rule ?_)
 refine UU ?_
 show wpAny _ _ (updateSeq s.heap.objs.size (·.push .none) >>= λ_=>updateSeq s.heap.objs.size (·.pop)) _ _ _
 refine UU (wpAny_updateSeq Wt rfl ?_)
 have hS3:=abo (Obj.mapSeq (·.push Value.none)) Wt rfl
 refine wpAny_updateSeq (hz:=by seq_fits) hS3 rfl ?_
 have hS4:=abo (Obj.mapSeq (·.pop)) hS3 rfl
 have UK:∀b o,b≠s.heap.objs.size->h2.get? b=some o->((h2.update s.heap.objs.size (Obj.mapSeq (·.push Value.none))).update s.heap.objs.size (Obj.mapSeq (·.pop))).get? b=some o:=λb o hb e=>
  (ab6 _ _ (ab0 hb)).trans ((ab6 _ _ (ab0 hb)).trans e)
 refine aay ⟨plainId_quiet PySem.F.plain_extend_loop _,key _ _ _ (W.frame 0 _ _ Bv λb hb o e=>UK b o (λz=>?_) e) (λb o e=>UK b o (aa0 (aaJ e)) (Kn b o e)) hS4⟩
 subst z
 simp only [aag,ack,or_false] at hb
 rcases hb with z|z
 ·exact YE z
 ·exact hSd z
def Ko(K:Qqy)(ta:TA):TE:=λZ H Q=>ta Z H λvs H1=>∃a xs,vs=[.ref a]/\gC K H1 a xs/\∀p,H1 p=none->Q (.ref p) (upd H1 p (.lst xs.reverse))
theorem Gq{a:Expr}{ta:TA}{p1 p2 YF N3:Pos}(hc:X.calm=true)(O0:Gl X "list")(YG:X.mg "list"=none)(hg:Gl X "reversed")(hm:X.mg "reversed"=none)(ha:PA X [a] ta)(hs:starEach [a] X.env=[(false,eval a X.env)]:=by rfl)
  (YH:starEach [.Call (.Name "reversed" p2) [a] [] N3] X.env=[(false,eval (.Call (.Name "reversed" p2) [a] [] N3) X.env)]:=by rfl):PE X (.Call (.Name "list" p1) [.Call (.Name "reversed" p2) [a] [] N3] [] YF) (Ko X.K ta):=by
 intro c_ s Z H Q I h
 refine Call_ (oZ I O0 YG boot_list (abg ?_ YH rfl))
 rw[YH]
 refine abx ?_
 refine Call_ (oZ I hg hm boot_reversed (abg (i3 (ha N3 c_ s Z H _ I h) λus s1 iH=>?_) hs rfl))
 obtain⟨vs,H1,I1,r1,q1⟩:=iH
 obtain⟨l,xs,rfl,hq,q⟩:=q1
 obtain⟨u,rfl,ru⟩:=vals1 r1
 cases (show u=Value.ref l from ru)
 obtain⟨hE,rv,pp,hz⟩:=I1.list hq
 have hl:=rv.length
 refine call_reversed_list pp.isList (abN ?_)
 have j3:l<s1.heap.objs.size:=let ⟨o,ho,_⟩:=pp.isList;aaJ ho
 have hL:(s1.heap.push (revObj l ((hE.toArray.size:Int)-1))).IsList l hE.toArray:=pp.isList.at λo e=>aaB _ e
 refine IC (s:={s1 with heap:=s1.heap.push (revObj l ((hE.toArray.size:Int)-1))}) (T:="list_reverseiterator") (d:=l) (n:=hE.toArray.size) (Walks.listRev (prog:=X.prog) (w:=X.w) (A:=X.A.in1.in1) (show X.A.in1.in1.handled=none from I.ok.hd hc) s1.heap.objs.size l (aa0 j3) hE.toArray) (λh ⟨_,⟨o,ho,Bu,_⟩,_⟩=>⟨o,ho,Bu⟩) (by decide) (by decide)
  (λA E s Q ⟨_,⟨o,ho,Bu,_⟩,_⟩ hq=>Km ⟨o,ho,Bu⟩ hq) (λA E s Q ⟨_,x,_⟩ hq=>wpAny_pyIter_revIter x hq) (aaR j3 (by show s1.heap.objs.size<=(s1.heap.push _).objs.size;rw[Heap.size_push];exact Nat.le_succ _))
  ⟨aaY _,by
   have e:(hE.toArray.size:Int)-1-((0:Nat):Int)=(hE.toArray.size:Int)-1:=by omega
   rw[e];exact⟨_,aaN _ rfl,rfl,rfl⟩,hL⟩ (by rw[aaz,<-hl];exact hz) λh' tk acc c hk hS AI=>?_
 have hf:H1 (s1.heap.push (revObj l ((hE.toArray.size:Int)-1))).objs.size=none:=I1.iK.fresh (by rw[Heap.size_push];omega)
 have rel:Vals xs.reverse acc.toList:=by
  have hsz:acc.toList.length=acc.size:=aa3
  refine pF (by rw[abE,hsz,AI.1,aaz,hl]) λi x y hx hy=>?_
  have hi:i<xs.length:=by have:=(List.getElem?_eq_some_iff.mp hx).1;rwa [abE] at this
  have z:=AI.2 i y (by rw[<-abq];exact hy)
  rw[List.getElem?_reverse hi] at hx
  obtain⟨w,hw,Bw⟩:=rv.get hx
  rw[aaz,<-hl] at z
  have z2:hE[xs.length-1-i]?=some y:=by simpa using z
  rw[hw] at z2
  cases z2
  exact Bw
 refine⟨.ref _,upd H1 _ (.lst xs.reverse),I1.laid (t':=tk) (h':=h') (λb o e=>hk b o (aa0 (aaJ e)) (aaB _ e)) (by rw[Heap.size_push];omega) ?_,rfl,q _ hf⟩
 exact⟨by rw[abE];exact hz,acc.toList,c,rel,by rw[Array.toArray_toList];exact hS⟩
end
open PySem PySem.Builtin.Str
theorem subAt_one(s:Str)(c i:Nat):subAt s ⟨#[c]⟩ i=decide (s.cps[i]?=some c):=by
 unfold subAt
 show(s.cps.extract i (i+1) ==#[c])=_
 rw[abn]
 simp only [acn,ace]
 by_cases h:i<s.cps.size
 ·have e:s.cps.extract i (i+1)=#[s.cps[i]]:=by
   apply Array.ext
   ·simp;omega
   ·intro j h1 h2
    simp at h2
    subst h2
    simp
  rw[e,abf h]
  constructor
  ·intro z;simpa using z
  ·intro z;simpa using z
 ·have e:s.cps.extract i (i+1)=#[]:=by
   apply Array.ext
   ·simp;omega
   ·intro j h1 h2;simp at h2
  rw[e,Array.getElem?_eq_none (by omega)]
  simp
noncomputable def oE(s sub:Str)(hi:Nat)(p:Array Nat×Nat)(i:Nat):Array Nat×Nat:=
 if(decide (p.1.size<1)&&decide (p.2<=i)&&decide (i+sub.length<=hi)&&subAt s sub i)=true then(p.1.push i,i+sub.length) else p
theorem Kq(s sub:Str)(lo hi:Nat):occurrences s sub lo hi 1=((List.range' lo (hi+1-lo)).foldl (oE s sub hi) (#[],lo)).1.toList:=by
 unfold occurrences
 simp only [Std.Legacy.Range.forIn_eq_forIn_range',Std.Legacy.Range.size]
 rw[show(hi+1-lo+1-1)/1=hi+1-lo by omega]
 generalize List.range' lo (hi+1-lo)=l
 generalize ((#[],lo):Array Nat×Nat)=p
 show Id.run (forIn l p _ >>= _)=_
 have go:∀(l:List Nat)(p:Array Nat×Nat),(forIn l p (λ(i:Nat) (q:Array Nat×Nat)=>(if(decide (q.fst.size<1)&&decide (q.snd<=i)&&decide (i+sub.length<=hi)&&subAt s sub i)=true then
   pure (ForInStep.yield (q.fst.push i,i+sub.length)) else pure (ForInStep.yield (q.fst,q.snd)):Id (ForInStep (Array Nat×Nat)))):Id (Array Nat×Nat))=l.foldl (oE s sub hi) p:=by
  intro l
  induction l with
  | nil=>intro p;rfl
  | cons a r ih=>
   intro p
   rw[List.forIn_cons,List.foldl_cons]
   unfold oE
   split
   ·exact ih _
   ·exact ih _
 rw[go]
 rfl
theorem MZ(s:Str)(c:Nat):(occurrences s ⟨#[c]⟩ 0 s.length 1).isEmpty=decide (c∉s.cps.toList):=by
 rw[Kq]
 have inv:∀(l:List Nat)(p:Array Nat×Nat),(p.1=#[]->p.2=0)->((l.foldl (oE s ⟨#[c]⟩ s.length) p).1=#[]↔p.1=#[]/\∀i∈l,¬(i+1<=s.length/\s.cps[i]?=some c)):=by
  intro l
  induction l with
  | nil=>intro p _;simp
  | cons a r ih=>
   intro p hp
   rw[List.foldl_cons]
   by_cases hc:(decide (p.1.size<1)&&decide (p.2<=a)&&decide (a+(⟨#[c]⟩:Str).length<=s.length)&&subAt s ⟨#[c]⟩ a)=true
   ·have e:oE s ⟨#[c]⟩ s.length p a=(p.1.push a,a+(⟨#[c]⟩:Str).length):=aax hc
    rw[e,ih _ (λz=>by simp at z)]
    simp only [abm,ace,subAt_one] at hc
    constructor
    ·rintro⟨z,_⟩;simp at z
    ·rintro⟨z,h⟩
     exact absurd ⟨hc.1.2,hc.2⟩ (h a aaC)
   ·have e:oE s ⟨#[c]⟩ s.length p a=p:=aav hc
    rw[e,ih _ hp]
    constructor
    ·rintro⟨z,h⟩
     refine⟨z,λi hi=>?_⟩
     rcases aag.mp hi with rfl|hi
     ·intro ⟨h1,h2⟩
      apply hc
      simp only [abm,ace,subAt_one]
      exact⟨⟨⟨by rw[z];decide,by rw[hp z];exact aaY _⟩,h1⟩,h2⟩
     ·exact h i hi
    ·rintro⟨z,h⟩
     exact⟨z,λi hi=>h i (aal _ hi)⟩
 have h:=inv (List.range' 0 (s.length+1-0)) (#[],0) (λ_=>rfl)
 rw[abn,ace,List.isEmpty_iff]
 rw[show(List.foldl (oE s ⟨#[c]⟩ s.length) (#[],0) (List.range' 0 (s.length+1-0))).1.toList=[]↔(List.foldl (oE s ⟨#[c]⟩ s.length) (#[],0) (List.range' 0 (s.length+1-0))).1=#[] from ⟨λz=>by simpa using z,λz=>by rw[z]⟩,h]
 constructor
 ·rintro⟨_,h⟩ hm
  obtain⟨i,hi,e⟩:=List.mem_iff_getElem.mp hm
  have By:i<s.cps.size:=by simpa using hi
  refine h i (by rw[List.mem_range'_1];show 0<=i/\i<0+(s.cps.size+1-0);omega) ⟨By,?_⟩
  rw[abf By]
  simpa using e
 ·intro hn
  refine⟨rfl,λi _ ⟨_,h2⟩=>hn ?_⟩
  exact XY (i:=i) (by rw[abq];exact h2)
section
variable{prog:Program}{w:World}{A:Around}{E:Qqq}{s:Shared}
end
section
variable{X:Cx}
end
def wU(h:Heap)(d:Addr)(es:Array DictEntry)(ep:Nat):Prop:=∃o,h.get? d=some o/\o.ExactDict/\o.data=.dict es ep
section
variable{P:Program}{w:World}{A:Around}{E:Qqq}{s:Shared}{d it:Addr}{es:Array DictEntry}{ep i:Nat}
theorem wU.ty(x:wU s.heap d es ep):s.TypeIs (.ref d) "dict":=by obtain⟨o,e,c,_⟩:=x;exact⟨o,e,c.1⟩
theorem wU.at{h h':Heap}(x:wU h d es ep)(k:∀o,h.get? d=some o->h'.get? d=some o):wU h' d es ep:=by obtain⟨o,e,r⟩:=x;exact⟨o,k o e,r⟩
theorem Ex{Q:Qqq}(lo:(d ==sysModules)=false)(x:wU s.heap d es ep)
  (k:Q (.ref s.heap.objs.size) {s with heap:=s.heap.push {cls:=.type "dict_keyiterator",data:=.fields #[.ref d,.int 0 0,.int es.size 0,.int ep 0]}}):wpAny (model P w) A (pyIter (.ref d)) Q E s:=by
 have ty:=x.ty
 obtain⟨o,e,c,dt⟩:=x
 refine wpAny_pyIter_slot ty F.slot_dict_iter (ab9 F.slot_dict_iter ty F.entry_dict_iter ?z (F.args_dict_iter_1 _))
 case z=>
  unfold Builtin.«dict.__iter__» Builtin.Dict.dictSlotNone
  refine UU (UU (wpAny_notOrdered_dict ty (show wpAny _ _ (pure (Value.ref d)) _ _ s from aay ?z)))
  case z=>
   show wpAny _ _ (Builtin.Dict.showsAll d >>= _) _ _ s
   unfold Builtin.Dict.showsAll
   rw[lo,aav (λz=>by cases z)]
   refine UU (aay (UU (abv e dt (UU (wpAny_dictEpoch e dt (UU (wpAny_newObj_type (aay ?z))))))))
   case z=>exact⟨_,rfl,"dict_keyiterator",_,⟨_,aaN _ rfl,rfl⟩,abH.lookup,by simpa[rawInt] using k⟩
theorem Ey{Q:Option Value->Shared->Prop}{y:DictEntry}(x:s.heap.IsKeyIter it d i es.size ep)(r:wU s.heap d es ep)(hy:es[i]?=some y)
  (k:∀h',h'.IsKeyIter it d (i+1) es.size ep->Heap.SameBut it s.heap h'->Q (some y.key) {s with heap:=h'}):wpAny (model P w) A (pyNext (.ref it)) Q E s:=by
 have ty:=x.typeIs
 obtain⟨o,e,c,dt⟩:=id x
 obtain⟨o2,e2,c2,UL⟩:=r
 have Rm:Builtin.Dict_items.ownsTuple "dict_keyiterator"=false:=by decide
 unfold pyNext
 refine UU (wpAny_attempt (wpAny_callSpecial?_slot (name:=Str.ofString "__next__") ty abH (ab9 abH ty F.entry_dict_keyiterator_next ?z (F.args_dict_keyiterator_next_1 _))))
 case z=>
  refine UU (aay (UU (UU ?z)))
  case z=>
   first|refine UU (abY ty (aay (UU (wpAny_fieldsOf e dt ?z))))|refine UU (wpAny_typeNameOf_keyiter ty (aay (UU (wpAny_fieldsOf e dt ?z))))
   case z=>
    simp only [Rm,aa9,aca]
    show wpAny _ _ (if(Value.ref d ==Value.none)=true then _ else _) _ _ s
    rw[aav (λz=>by cases z)]
    refine UU (aay (UU (abv e2 UL ?z)))
    case z=>
     rw[aav (by simp)]
     refine UU (aay (UU (wpAny_dictEpoch e2 UL ?z)))
     case z=>
      rw[aav (by simp)]
      refine aay ?z
      case z=>
       simp only [show ¬((i:Int)<0) by omega,aca,abP,hy]
       refine UU ?z
       case z=>
        first|refine UU (abY ty (aay (UU (wpAny_isOneOf_keyiter ty ?z))))|refine UU (wpAny_typeNameOf_keyiter ty (aay (UU (wpAny_isOneOf_keyiter ty ?z))))
        case z=>
         show wpAny _ _ (setField (.ref it) 1 (rawInt ((i:Int)+1)) >>= _) _ _ s
         have n:(s.heap.update it (Obj.mapFields (·.setIfInBounds 1 (rawInt ((i:Int)+1))))).IsKeyIter it d (i+1) es.size ep:=
          ⟨_,abo _ e (Obj.isFreed_of_fields (Obj.data_mapFields dt _)),(Obj.cls_mapFields ..).trans c,by rw[Obj.data_mapFields dt];simp[rawInt]⟩
         refine UU (wpAny_setField e dt (by simp) (UU (abS (UU (wpAny_isOneOf_keyiter (s:={s with heap:=s.heap.update it (Obj.mapFields (·.setIfInBounds 1 (rawInt ((i:Int)+1))))}) n.typeIs ?z)))))
         case z=>
          show wpAny _ _ (pure y.key) _ _ _
          exact aay (aay ⟨_,rfl,aay (k _ n (abF ..))⟩)
theorem Ez{Q:Option Value->Shared->Prop}(hh:A.handled=none)(x:s.heap.IsKeyIter it d i es.size ep)(r:wU s.heap d es ep)(hy:es.size<=i)
  (k:∀h',Heap.ExtBut it s.heap h'->Q none {s with heap:=h'}):wpAny (model P w) A (pyNext (.ref it)) Q E s:=by
 have ty:=x.typeIs
 obtain⟨o,e,c,dt⟩:=id x
 obtain⟨o2,e2,c2,UL⟩:=r
 have Rm:Builtin.Dict_items.ownsTuple "dict_keyiterator"=false:=by decide
 unfold pyNext
 refine UU (wpAny_attempt (wpAny_callSpecial?_slot (name:=Str.ofString "__next__") ty abH (ab9 abH ty F.entry_dict_keyiterator_next ?z (F.args_dict_keyiterator_next_1 _))))
 case z=>
  refine UU (aay (UU (UU ?z)))
  case z=>
   first|refine UU (abY ty (aay (UU (wpAny_fieldsOf e dt ?z))))|refine UU (wpAny_typeNameOf_keyiter ty (aay (UU (wpAny_fieldsOf e dt ?z))))
   case z=>
    simp only [Rm,aa9,aca]
    show wpAny _ _ (if(Value.ref d ==Value.none)=true then _ else _) _ _ s
    rw[aav (λz=>by cases z)]
    refine UU (aay (UU (abv e2 UL ?z)))
    case z=>
     rw[aav (by simp)]
     refine UU (aay (UU (wpAny_dictEpoch e2 UL ?z)))
     case z=>
      rw[aav (by simp)]
      refine aay ?z
      case z=>
       simp only [show ¬((i:Int)<0) by omega,aca,abP,Array.getElem?_eq_none hy]
       refine UU ?z
       case z=>
        first|refine UU (abY ty (aay ?z))|refine UU (wpAny_typeNameOf_keyiter ty (aay ?z))
        case z=>
         show wpAny _ _ (setField (.ref it) 0 .none >>= _) _ _ s
         refine UU (wpAny_setField e dt (by simp) ?z)
         case z=>
          show wpAny _ _ (newExc (.type "StopIteration") [] >>= _) _ _ _
          refine UU ?z
          case z=>
           simp only [newExc,newTuple]
           refine UU (wpAny_newObj_type (UU (m:=firstArgMember _ _) (wpAny_of_eq (a:=Value.none) (by first|rfl|(simp only [firstArgMember];rfl)) (wpAny_newObj_type ?z (by size_fits)))) (by size_fits))
           case z=>
            simp only [raiseNew]
            refine UU (wpAny_handled ?z)
            case z=>
             rw[show A.in1.handled=none from hh]
             refine UU (aay (wpAny_throw ?z))
             case z=>exact UU (wpAny_isInstance (T:="StopIteration") (b:=true) ⟨_,aaN _ rfl,rfl⟩ isSubtype_stop <| aay (k _ (((abF ..).extBut.push _).push _)))
end
section
variable{X:Cx}{c_:Qqz}{Z:St}{H:Hp}{s:Shared}{tg:Expr}
noncomputable def ID(d:Addr)(o:Obj)(kvs:List (List Key×V)):It:=
 ⟨λi H=>H d=some (.ni o (.dT kvs))/\i<kvs.length,λi H x H'=>H'=H/\∃k v b,kvs[i]?=some (k,v)/\x=.ref b/\H b=some (.tup (k.map kV)),λi H=>H d=some (.ni o (.dT kvs))/\kvs.length<=i⟩
theorem kt_at{kvs:List (List Key×V)}{xs:List (List Key×Addr×Value)}(r:KT H kvs xs):∀{i:Nat} {k:List Key} {b:Addr} {u:Value},xs[i]?=some (k,b,u)->∃v,kvs[i]?=some (k,v)/\H b=some (.tup (k.map kV))/\RelV v u:=by
 induction r with
 | nil=>intro i k b u e;simp at e
 | @cons p q ps qs f t ih=>
  intro i k b u e
  cases i with
  | zero=>
   simp at e
   subst e
   exact⟨p.2,abd some (Prod.ext f.1 rfl),by rw[<-show p.1=k from f.1];exact f.2.1,f.2.2⟩
  | succ i=>
   obtain⟨v,h1,h2⟩:=ih (by simpa using e)
   exact⟨v,by simpa using h1,h2⟩
theorem zL{P:Program}{w:World}{h:Heap}{d:Addr}{kvs:List (List Key×V)}(q:i0 P w H h d (.dT kvs)):(d ==sysModules)=false/\kvs.length<=sizeLine/\∃(es:Array DictEntry)(ep:Nat),wU h d es ep/\es.size=kvs.length/\
  (∀(i:Nat)(y:DictEntry),es[i]?=some y->∃k v b,kvs[i]?=some (k,v)/\y.key=.ref b/\H b=some (.tup (k.map kV))/\RelV v y.val):=by
 obtain⟨hz,hs,xs,r,o,es,ep,ho,hc,hd,he,hn⟩:=q
 have sz:=acw he
 refine⟨hs,hz,es,ep,⟨o,ho,hc,hd⟩,by rw[sz];exact(aau r).symm,λi y hy=>?_⟩
 rw[entry_at he i] at hy
 obtain⟨⟨k,b,u⟩,hx,e⟩:=Option.map_eq_some_iff.mp hy
 obtain⟨v,h1,h2,h3⟩:=kt_at r hx
 subst e
 exact⟨k,v,b,h1,rfl,h2,h3⟩
theorem Gr{P:Program}{w:World}{K:Qqy}(d it:Addr)(o:Obj)(es:Array DictEntry)(ep:Nat)(kvs:List (List Key×V))(LQ:o.data=.dict es ep)(hsz:es.size=kvs.length):Turn P w K tg (ID d o kvs) [it] it (λi h=>h.IsKeyIter it d i es.size ep) where
 mem:=by simp
 obj:=λi h st b hb=>by
  have e:b=it:=by simpa using hb
  subst e
  obtain⟨o,e,c,d⟩:=st
  exact⟨o,e,λv z=>by rw[d] at z;cases z⟩
 keep:=λi h h' st k=>st.at λo e=>k it (by simp) o e
 item:=by
  intro X hP hw hK hc i c_ s Z H E I hf st hg
  subst hP hw hK
  obtain⟨hd,hi⟩:=hg
  obtain⟨ho,q⟩:=(show i0 X.prog X.w H s.heap d (.ni o (.dT kvs)) from I.iK d _ hd)
  obtain⟨_,_,Sf,OS,raw,sz,Sk⟩:=zL q
  obtain⟨o',qf,h2,h3⟩:=id raw
  rw[ho] at qf;cases qf
  rw[LQ] at h3;cases h3
  have By:i<es.size:=by omega
  obtain⟨k,v,b,e1,e2,e3,_⟩:=Sk i es[i] (abf By)
  obtain⟨f0,f1,f2,f3,f4,f5⟩:=hf it (by simp)
  refine Ey st raw (abf By) λh' yJ sb=>?_
  have I1:Inv X c_ Z H {s with heap:=h'}:=I.turned (t':=s.toks) (λb o hb e=>(sb.2 b hb).trans e) f0 f1 f3 f4 f5
  obtain⟨o',e,c,dd⟩:=id yJ
  exact⟨_,rfl,zt (s:={s with heap:=h'}) e c dd (by decide) ⟨.ref b,H,I1,e2,⟨rfl,k,v,b,e1,rfl,e3⟩,yJ,λb hb=>(hf b hb).1⟩⟩
 done:=by
  intro X hP hw hK hc i c_ s Z H E I hf st hg
  subst hP hw hK
  obtain⟨hd,hi⟩:=hg
  obtain⟨ho,q⟩:=(show i0 X.prog X.w H s.heap d (.ni o (.dT kvs)) from I.iK d _ hd)
  obtain⟨_,_,Sf,OS,raw,sz,Sk⟩:=zL q
  obtain⟨o',qf,h2,h3⟩:=id raw
  rw[ho] at qf;cases qf
  rw[LQ] at h3;cases h3
  obtain⟨f0,f1,f2,f3,f4,f5⟩:=hf it (by simp)
  exact Ez (I.ok.hd hc) st raw (by omega) λh' eb=>⟨rfl,I.turned (t':=s.toks) (λb o hb e=>eb b o hb e) f0 f1 f3 f4 f5⟩
 self:=λ_ _ _ _ _ st h=>wpAny_pyIter_keyiter st h
def Qk(X:Cx)(td:TE):TI:=λZ H R=>td Z H λx H1=>∃d kvs,x=.ref d/\H1 d=some (.dT kvs)/\∀o,zK X d->R (ID d o kvs) (upd H1 d (.ni o (.dT kvs)))
theorem zM{l:Expr}{td:TE}(hl:PE X l td):PI X tg l (Qk X td):=by
 intro c_ s Z H R I h
 refine i3 (hl c_ s Z H _ I h) λv s1 iH=>?_
 obtain⟨x,H1,I1,r1,q1⟩:=iH
 obtain⟨d,kvs,e,hd,q⟩:=q1
 subst e
 cases r1
 have nf:=I1.Qi hd True.intro
 obtain⟨o,ho,I2⟩:=I1.frozen hd True.intro
 obtain⟨hs,_,es,ep,raw,sz,_⟩:=zL (I1.iK d _ hd)
 obtain⟨o',qf,h2,h3⟩:=id raw
 rw[ho] at qf;cases qf
 refine Ex hs raw ?_
 refine⟨s1.heap.objs.size,[s1.heap.objs.size],_,_,_,rfl,I2.kept (t':=s1.toks) λb o e=>aaB _ e,Gr d _ o es ep kvs h3 sz,⟨_,aaN _ rfl,rfl,rfl⟩,λb hb=>?_,q o nf⟩
 have e:b=s1.heap.objs.size:=by simpa using hb
 subst e
 exact I2.zr (XU _) (I2.iK.fresh (XU _))
theorem BS{d:Addr}{o:Obj}{kvs:List (List Key×V)}{g:TG}{tb:TS}{D:Ends}{Z:St}{H:Hp}(Pv:Nat->St->Hp->Prop)(h0:Pv 0 Z H)(hl:∀i Z H,Pv i Z H->H d=some (.ni o (.dT kvs)))
  (hs:∀i k v b Z H,kvs[i]?=some (k,v)->H b=some (.tup (k.map kV))->Pv i Z H->g (.ref b) Z H λZ2 H2=>tb {D with nx:=Pv (i+1),ct:=Pv (i+1),bk:=D.nx} Z2 H2) (hd:∀Z H,Pv kvs.length Z H->D.nx Z H) :
  ∃W:Nat->Nat->St->Hp->Prop,(∃m,W 0 m Z H)/\∀i m Z H,W i m Z H->
   ((ID d o kvs).stop i H/\D.nx Z H)\/((ID d o kvs).go i H/\∃N:St->Hp->Prop,(∀Z' H',N Z' H'->∃m',m'<m/\W (i+1) m' Z' H')/\∀x H',(ID d o kvs).JJ i H x H'->g x Z H' λZ2 H2=>tb {D with nx:=N,ct:=N,bk:=D.nx} Z2 H2):=by
 refine⟨λi m Z H=>m=kvs.length-i/\i<=kvs.length/\Pv i Z H,⟨kvs.length,by simp,aaY _,h0⟩,?_⟩
 rintro i m Z H ⟨rfl,hi,p⟩
 have q:=hl i Z H p
 by_cases j3:i<kvs.length
 ·refine .inr ⟨⟨q,j3⟩,Pv (i+1),λZ' H' p'=>⟨kvs.length-(i+1),by omega,rfl,j3,p'⟩,λx H' y=>?_⟩
  obtain⟨e,k,v,b,y,rfl,hb⟩:=y
  subst e
  exact hs i k v b Z _ y hb p
 ·have e:i=kvs.length:=by omega
  subst e
  exact .inl ⟨⟨q,XU _⟩,hd Z H p⟩
theorem Kr{d:Addr}{o:Obj}{kvs:List (List Key×V)}{g:TG}{tt:TT}{te:TE}{Q:List V->Hp->Prop}{Z:St}{H:Hp}(hn:kvs.length<=sizeLine)(Pv:Nat->List V->St->Hp->Prop)(h0:Pv 0 [] Z H)(hl:∀i ys Z H,Pv i ys Z H->H d=some (.ni o (.dT kvs))/\ys.length<=i)
  (hs:∀i k v b ys Z H,kvs[i]?=some (k,v)->H b=some (.tup (k.map kV))->Pv i ys Z H->g (.ref b) Z H λZ2 H2=>tt Z2 H2 λc H3=>if c=true then te Z2 H3 λv H4=>Pv (i+1) (ys++[v]) Z2 H4 else Pv (i+1) ys Z2 H3)
  (hd:∀ys Z H,Pv kvs.length ys Z H->Q ys H):IA g tt te (ID d o kvs) Q Z H:=by
 refine⟨λi m ys Z H=>m=kvs.length-i/\i<=kvs.length/\Pv i ys Z H,⟨kvs.length,by simp,aaY _,h0⟩,?_⟩
 rintro i m ys Z H ⟨rfl,hi,p⟩
 obtain⟨q,hy⟩:=hl i ys Z H p
 by_cases j3:i<kvs.length
 ·refine .inr ⟨⟨q,j3⟩,by omega,Pv (i+1),λSj Z' H' p'=>⟨kvs.length-(i+1),by omega,rfl,j3,p'⟩,λx H' y=>?_⟩
  obtain⟨e,k,v,b,y,rfl,hb⟩:=y
  subst e
  exact hs i k v b ys Z _ y hb p
 ·have e:i=kvs.length:=by omega
  subst e
  exact .inl ⟨⟨q,XU _⟩,by omega,hd ys Z H p⟩
end
section
variable{P:Program}{w:World}{d it:Addr}{es:Array DictEntry}{ep:Nat}
theorem IE{A:Around}(hh:A.handled=none)(oa:d≠it):Walks P w A it [it,d] [it] es.size (λi v=>∃y,es[i]?=some y/\v=y.key) (λi h=>h.IsKeyIter it d i es.size ep/\wU h d es ep) where
 sub:=λb hb=>by rw[XS.mp hb];exact aaC
 frame:=λi h h' ⟨a,b⟩ hk=>⟨a.at λo e=>hk it aaC o e,b.at λo e=>hk d (by simp) o e⟩
 item:=λi s Q E hi ⟨a,b⟩ hQ=>Ey a b (abf hi) λh' a' sb=>hQ _ h' s.toks ⟨_,abf hi,rfl⟩ ⟨a',b.at λo e=>sb.extBut d o oa e⟩ λb o hb e=>sb.extBut b o (λz=>hb (by rw[z];exact XS.mpr rfl)) e
 done:=λs Q E ⟨a,b⟩ hQ=>Ez hh a b (XU _) λh' eb=>hQ h' s.toks λb o hb e=>eb b o (λz=>hb (by rw[z];exact XS.mpr rfl)) e
 self:=λi s Q E ⟨a,_⟩ hQ=>wpAny_pyIter_keyiter a hQ
theorem M0(lo:(d ==sysModules)=false):W.KdlSrc P w "dict" d d es.size (λi v=>∃y,es[i]?=some y/\v=y.key) (λh=>wU h d es ep) where
 type:=λs r=>r.ty
 there:=λh ⟨o,e,_⟩=>⟨aaJ e,aaJ e⟩
 keep:=λh h' r hk=>r.at λo e=>hk d (.inl rfl) o e
 notList:=by decide
 notTuple:=by decide
 hint:=λA E s Q r hq=>W.kdl_hint_dict r.ty hq
 iter:=λA s hh r=>⟨_,_,(λE Q hq=>Ex lo r hq),IE hh (by obtain⟨o,e,_⟩:=r;exact aa0 (aaJ e)),⟨⟨_,aaN _ rfl,rfl,rfl⟩,r.at λo e=>aaB _ e⟩⟩
end
section
variable{X:Cx}{c_:Qqz}{Z:St}{H:Hp}{s:Shared}
theorem yO(hc:X.calm=true):uV X (.type "list") (λxs H Q=>∃d kvs,xs=[V.ref d]/\H d=some (.dT kvs)/\∀p bs,H p=none->Paired (λ(kv:List Key×V) (b:Addr)=>H b=some (.tup (kv.1.map kV))) kvs bs->Q (.ref p) (upd H p (.lst (bs.map V.ref)))):=by
 intro c_ s Z H xs us Q I r h
 obtain⟨d,kvs,rfl,hd,q⟩:=h
 obtain⟨u,rfl,ru⟩:=vals1 r
 cases (show u=Value.ref d from ru)
 obtain⟨hs,hz,es,ep,raw,sz,Sk⟩:=zL (I.iK d _ hd)
 refine W.kdl_call (M0 hs) (I.ok.hd hc) raw (by omega) λh' tk acc c hk hS AI=>?_
 have hf:H s.heap.objs.size=none:=I.iK.fresh (XU _)
 have hb:∀i:Nat,i<kvs.length->∃k v b,kvs[i]?=some (k,v)/\(es[i]?.map DictEntry.key)=some (Value.ref b)/\H b=some (.tup (k.map kV)):=λi hi=>by
  have By:i<es.size:=by omega
  obtain⟨k,v,b,e1,e2,e3,_⟩:=Sk i es[i] (abf By)
  exact⟨k,v,b,e1,by rw[abf By,ab4,e2],e3⟩
 let adr:Value->Addr:=λv=>match v with|.ref b=>b|_=>0
 let bs:List Addr:=es.toList.map λy=>adr y.key
 have O1:bs.length=kvs.length:=by show(es.toList.map _).length=_;rw[O4,aa3];exact sz
 have Ro:∀(i:Nat)(b:Addr),bs[i]?=some b->∃k v,kvs[i]?=some (k,v)/\es[i]?.map DictEntry.key=some (Value.ref b)/\H b=some (.tup (k.map kV)):=λi b e=>by
  have hi:i<kvs.length:=by rw[<-O1];exact(List.getElem?_eq_some_iff.mp e).1
  obtain⟨k,v,b',e1,e2,e3⟩:=hb i hi
  have:bs[i]?=some b':=by
   show(es.toList.map _)[i]?=_
   rw[aan,abq]
   obtain⟨y,ey,e4⟩:=Option.map_eq_some_iff.mp e2
   rw[ey]
   show some (adr y.key)=_
   rw[e4]
  rw[this] at e
  cases e
  exact⟨k,v,e1,e2,e3⟩
 have rel:Vals (bs.map V.ref) acc.toList:=by
  refine pF (by have e1:=AI.1;have e2:acc.toList.length=acc.size:=aa3;rw[O4,O1];omega) λi a b ha hb=>?_
  rw[aan] at ha
  obtain⟨b',e,rfl⟩:=Option.map_eq_some_iff.mp ha
  obtain⟨k,v,_,e2,_⟩:=Ro i b' e
  obtain⟨y,hy,hv⟩:=AI.2 i b (by rw[<-abq];exact hb)
  rw[hy,ab4] at e2
  show b=.ref b'
  rw[hv,aaE e2]
 refine⟨.ref s.heap.objs.size,upd H s.heap.objs.size (.lst (bs.map V.ref)),I.laid (t':=tk) hk (XU _) ?_,rfl,q _ bs hf (pF O1.symm λi a b ha hb=>?_)⟩
 ·exact⟨by rw[O4,O1];exact hz,acc.toList,c,rel,by rw[Array.toArray_toList];exact hS⟩
 ·obtain⟨k,v,e1,_,e3⟩:=Ro i b hb
  rw[e1] at ha
  cases ha
  exact e3
end
section
variable{P:Program}{w:World}{Z:Type}[DecidableEq Z]{knd:HeapKind P w Z}{A:Around}{E:Qqq}{s:Shared}{d a:Addr}{xs:List (Z×Addr×Value)}{k:Z}
theorem Ks{v:Value}{Q:Unit->Shared->Prop}(hu:knd.room A)(hk:knd.is s.heap k a)(m:s.heap.DictOfH knd d xs)(hz:xs.length<=sizeLine)
  (q:∀h',h'.DictOfH knd d (storedH xs k a v)->Heap.SameBut d s.heap h'->Q () {s with heap:=h'}):wpAny (model P w) A (dictSetHashed d (.ref a) (knd.hash k) v) Q E s:=by
 obtain⟨o,es,ep,ho,hc,hd,he,Sl,hn⟩:=m
 have sz:=acw he
 unfold dictSetHashed
 try with_reducible refine abS ?_
 refine UU (wpAny_dictFind_heap hu hk ho hd he Sl hn (λno=>?_) λj p hj=>?_)
 ·have at0:=atKey_none_of_get no
  refine UU (wpAny_rule (wpAny_updateDictKeys (hz:=by omega) ho hd (q _ ?_ (abF ..))))
  rw[storedH_new at0]
  refine⟨_,_,ep+1,abo _ ho (Obj.isFreed_of_dict (Obj.data_mapDictKeys hd _)),hc.mapDictKeys _,Obj.data_mapDictKeys hd _,by simp[he,entryOfKey],λx hx=>?_,?_⟩
  ·refine knd.keeps ?_ ho hd (abF ..)
   rcases aak.mp hx with hx|hx
   ·exact Sl x hx
   ·rw[XS.mp hx];exact hk
  ·rw[aaG,abh]
   exact⟨hn,by simp,λx hx y hy z=>not_mem_keys_of_get no (by rw[XS.mp hy] at z;have z:x=k:=z;exact z▸hx)⟩
 ·have at1:=atKey_of_get hn hj
  refine UU (wpAny_rule (UU (wpAny_updateDict ho hd (wpAny_point (q _ ?_ (abF ..))))))
  rw[storedH_old at1]
  refine⟨_,_,ep,abo _ ho (Obj.isFreed_of_dict (Obj.data_mapDict hd _)),hc.mapDict _,Obj.data_mapDict hd _,?_,λx hx=>?_,by rw[keys_map_putAt];exact hn⟩
  ·have z:=modify_map_putAt (entryOfKey knd) (λe:DictEntry=>{e with val:=v}) k v (λ_ _=>rfl) hn hj
   rw[<-he] at z
   obtain⟨l⟩:=es
   simpa using z
  ·obtain⟨y,hy,rfl⟩:=List.mem_map.mp hx
   unfold putAt
   split<;>exact knd.keeps (Sl y hy) ho hd (abF ..)
def EA(xs:List (Z×Addr×Value))(k:Z):List (Z×Addr×Value):=xs.filter λx=>decide (x.1≠k)
theorem Gs{Y:Type}(f:Z×Addr×Value->Y):∀{xs:List (Z×Addr×Value)} {j:Nat} {p:Addr×Value},(xs.map (·.1)).Nodup->xs[j]?=some (k,p)->(xs.map f).eraseIdx j=(EA xs k).map f:=by
 intro xs
 induction xs with
 | nil=>intro j p _ hj;simp at hj
 | cons x r ih=>
  intro j p hn hj
  rw[aaK,aa8] at hn
  unfold EA
  cases j with
  | zero=>
   simp at hj
   have e:r.filter (λx=>decide (x.1≠k))=r:=List.filter_eq_self.mpr λy hy=>XZ λz=>hn.1 (by rw[hj];show k∈_;rw[<-z];exact aae hy)
   rw[aai (by rw[hj];simp),e]
   rfl
  | succ j=>
   have hj:r[j]?=some (k,p):=by simpa using hj
   have ne:x.1≠k:=λz=>hn.1 (by rw[z];exact List.mem_map.mpr ⟨_,XY hj,rfl⟩)
   rw[YR (by simpa using ne),aaK,aaK,List.eraseIdx_cons_succ,ih hn.2 hj]
   rfl
theorem Kt{p:Addr×Value}{Q:Option DictEntry->Shared->Prop}(hu:knd.room A)(hk:knd.is s.heap k a)(m:s.heap.DictOfH knd d xs)(hz:xs.length<=sizeLine)(hp:atKey xs k=some p)
  (q:∀h',h'.DictOfH knd d (EA xs k)->Heap.SameBut d s.heap h'->Q (some ⟨knd.hash k,.ref p.1,p.2⟩) {s with heap:=h',toks:=s.toks+knd.draws k}):wpAny (model P w) A (Builtin.Dict.takeOut d (.ref a)) Q E s:=by
 obtain⟨o,es,ep,ho,hc,hd,he,Sl,hn⟩:=m
 have sz:=acw he
 unfold Builtin.Dict.takeOut
 try with_reducible refine abS ?_
 refine UU (knd.pyHash hu hk (UU (wpAny_dictFind_heap (s:={s with toks:=s.toks+knd.draws k}) hu hk ho hd he Sl hn (λno=>?_) λj p' hj=>?_)))
 ·rw[atKey_none_of_get no] at hp;cases hp
 ·have e:=atKey_of_get hn hj
  rw[hp] at e
  cases e
  refine UU (abv (s:={s with toks:=s.toks+knd.draws k}) ho hd ?_)
  rw[entry_at he j,hj]
  refine UU (wpAny_updateDictKeys (hz:=by omega) (s:={s with toks:=s.toks+knd.draws k}) ho hd (aay (q _ ?_ (abF ..))))
  refine⟨_,_,ep+1,abo _ ho (Obj.isFreed_of_dict (Obj.data_mapDictKeys hd _)),hc.mapDictKeys _,Obj.data_mapDictKeys hd _,?_,λx hx=>knd.keeps (Sl x (aao.mp hx).1) ho hd (abF ..),(aa5.map _).nodup hn⟩
  have z:=Gs (k:=k) (entryOfKey knd) hn hj
  rw[<-he] at z
  rw[<-z]
  obtain⟨l⟩:=es
  simp
def kP(xs more:List (Z×Addr×Value)):List (Z×Addr×Value):=more.foldl (λacc x=>storedH acc x.1 x.2.1 x.2.2) xs
theorem EB{xs more:List (Z×Addr×Value)}{i:Nat}{x:Z×Addr×Value}(h:more[i]?=some x):kP xs (more.take (i+1))=storedH (kP xs (more.take i)) x.1 x.2.1 x.2.2:=by
 unfold kP
 rw[List.take_add_one,h,List.foldl_append]
 rfl
theorem EC(xs:List (Z×Addr×Value))(k:Z)(a:Addr)(v:Value):(storedH xs k a v).length<=xs.length+1:=by
 unfold storedH
 split
 ·rw[O4];omega
 ·rw[YN];exact XU _
theorem Gu(xs:List (Z×Addr×Value)):∀more:List (Z×Addr×Value),(kP xs more).length<=xs.length+more.length:=by
 intro more
 unfold kP
 induction more generalizing xs with
 | nil=>exact XU _
 | cons x r ih=>
  have h1:=ih (storedH xs x.1 x.2.1 x.2.2)
  have h2:=EC xs x.1 x.2.1 x.2.2
  rw[List.foldl_cons,aah]
  omega
theorem Gv{nm:String}{o:Addr}{more:List (Z×Addr×Value)}{Q:Unit->Shared->Prop}(hu:knd.room A)(ne:d≠o)(lo:(o ==sysModules)=false)(oa:xs≠[])(md:s.heap.DictOfH knd d xs)(mo:s.heap.DictOfH knd o more)(hz:xs.length+more.length<=sizeLine)
  (q:∀h',h'.DictOfH knd d (kP xs more)->Heap.SameBut d s.heap h'->Q () {s with heap:=h'}):wpAny (model P w) A (Builtin.Dict.mergeDict nm d o) Q E s:=by
 obtain⟨od,Wu,epd,Wv,Cn,O2,Rp,nj,Rq⟩:=id md
 obtain⟨oo,Js,epo,Ww,hco,LQ,LJ,hio,hno⟩:=id mo
 have szo:=acw LJ
 have szd:=acw Rp
 unfold Builtin.Dict.mergeDict Builtin.Dict.showsAll
 rw[aav (by simpa using ne),lo,aav (λz=>by cases z)]
 refine UU (aay (UU (abv Ww LQ ?_)))
 dsimp only
 have loop:wpAny (model P w) A (do
   let UM <-dictEpoch o
   let l <-dictEntries o
   forIn [:l.size] PUnit.unit λi (_:PUnit)=>(do
     let l' <-dictEntries o
     match l'[i]? with
      | some e=>do
       holding [e.key,e.val] (dictSetHashed d e.key e.hash e.val)
       let OS <-dictEpoch o
       if(OS != UM)=true then do (unsupported (toString nm++toString ":source-changed-during-callback"):Sem PUnit);pure (ForInStep.yield PUnit.unit)
        else pure (ForInStep.yield PUnit.unit)
      | _=>do (unsupported "internal:dict-merge":Sem PUnit);pure (ForInStep.yield PUnit.unit):Sem (ForInStep PUnit))
   pure ()) Q E s:=by
  refine UU (wpAny_dictEpoch Ww LQ (UU (abv Ww LQ (UU ?_))))
  rw[Std.Legacy.Range.forIn_eq_forIn_range']
  simp only [Std.Legacy.Range.size,Nat.sub_zero,Nat.add_sub_cancel,Nat.div_one]
  refine wpAny_forIn_list _ (λrest _ s'=>∃h' i,s'={s with heap:=h'}/\rest=List.range' i (Js.size-i)/\i<=Js.size/\h'.DictOfH knd d (kP xs (more.take i))/\Heap.SameBut d s.heap h') _ ?_ ?_ _ _ ⟨s.heap,0,rfl,by simp,aaY _,by simpa[kP] using md,Heap.SameBut.refl _ _⟩
  ·rintro x rest b s' ⟨h',i,rfl,hr,hi,hm,hs⟩
   have j3:i<Js.size:=by
    rcases Nat.lt_or_ge i Js.size with z|z
    ·exact z
    ·rw[Nat.sub_eq_zero_of_le z] at hr;simp at hr
   obtain⟨ex,er⟩:x=i/\rest=List.range' (i+1) (Js.size-(i+1)):=by
    rw[show Js.size-i=(Js.size-(i+1))+1 by omega,acD] at hr
    exact List.cons.inj hr
   subst ex
   have UN:h'.get? o=some oo:=(hs.2 o (ab0 ne)).trans Ww
   refine UU (abv UN LQ ?_)
   obtain⟨⟨k,b2,v⟩,hx⟩:∃y,more[x]?=some y:=⟨more[x]'(by omega),UQ _⟩
   rw[entry_at LJ x,hx]
   show wpAny _ _ (holding [Value.ref b2,v] (dictSetHashed d (.ref b2) (knd.hash k) v) >>= _) _ _ _
   have hl:(kP xs (more.take x)).length<=sizeLine:=by
    have:=Gu xs (more.take x)
    rw[aaO] at this
    omega
   have hib:knd.is h' k b2:=knd.keeps (hio _ (XY hx)) Wv O2 hs
   refine UU (abS (Ks (s:={s with heap:=h'}) hu hib hm hl λh2 m2 s2=>?_))
   refine UU (wpAny_dictEpoch ((s2.2 o (ab0 ne)).trans UN) LQ ?_)
   rw[aav (by simp)]
   exact aay ⟨h2,x+1,rfl,er,j3,by rw[EB hx];exact m2,hs.trans s2⟩
  ·rintro b s' ⟨h',i,rfl,hr,hi,hm,hs⟩
   have e:i=Js.size:=by
    rcases Nat.lt_or_ge i Js.size with z|z
    ·rw[show Js.size-i=(Js.size-(i+1))+1 by omega,acD] at hr;cases hr
    ·omega
   refine aay (q h' ?_ hs)
   rw[e,szo,aaD] at hm
   exact hm
 split
 ·refine UU (abv Wv O2 ?_)
  rw[aav (λz=>?_)]
  ·exact loop
  ·have:Wu=#[]:=Array.isEmpty_iff.mp z
   rw[this] at szd
   exact oa (aaQ.mp szd.symm)
 ·exact loop
theorem Ku{o:Addr}{more:List (Z×Addr×Value)}{Q:Qqq}(hu:knd.room A.in1)(ne:d≠o)(lo:(o ==sysModules)=false)(oa:xs≠[])(md:s.heap.DictOfH knd d xs)(mo:s.heap.DictOfH knd o more)(hz:xs.length+more.length<=sizeLine)
  (q:∀h',h'.DictOfH knd d (kP xs more)->Heap.SameBut d s.heap h'->Q .none {s with heap:=h'}):wpAny (model P w) A (call (.builtin "dict.update") [.ref d,.ref o]) Q E s:=by
 refine ab9 acf md.typeIs PySem.F.entry_dict_update ?_ (PySem.F.args_dict_update_2 _ _)
 unfold Builtin.«dict.update» Builtin.Dict.selfAndRest
 refine UU (UU (wpAny_notOrdered_dict md.typeIs (show wpAny _ _ (pure (d,[Value.ref o])) _ _ s from aay ?_)))
 show wpAny _ _ (Builtin.Dict.updateFrom "dict.update" d (.ref o) [] .none) _ _ s
 unfold Builtin.Dict.updateFrom
 refine UU (wpAny_typeOf mo.typeIs ?_)
 rw[aav (by decide)]
 unfold Builtin.Dict.merge Builtin.Dict.readDirectly
 refine UU (UU (UU (wpAny_isInstance mo.typeIs isSubtype_dict_dict ?_)))
 simp only [Bool.not_true,aa9,aca]
 refine UU (acu mo.typeIs F.slot_dict_iter.lookup (aay ?_))
 simp only [beq_self_eq_true,if_true]
 refine UU (aay (Gv hu ne lo oa md mo hz λh' m s'=>?_))
 show wpAny _ _ (Builtin.Dict.addKeywords d [] >>= _) _ _ _
 exact UU (aay (aay ⟨.none,rfl,q h' m s'⟩))
end
def putAll{Z:Type}[DecidableEq Z](kvs more:List (Z×V)):List (Z×V):=more.foldl (λacc kv=>putK acc kv.1 kv.2) kvs
section
variable{Z:Type}[DecidableEq Z]
theorem rK(kvs:List (Z×V))(p:Z×V)(r:List (Z×V)):putAll kvs (p::r)=putAll (putK kvs p.1 p.2) r:=rfl
theorem ql:∀(more kvs:List (Z×V)),(putAll kvs more).length<=kvs.length+more.length
 | [],kvs=>XU _
 | p::r,kvs=>by
  have h1:=ql r (putK kvs p.1 p.2)
  have h2:=jr kvs p.1 p.2
  rw[rK,aah]
  omega
theorem kt_merged{H:Hp}{more:List (List Key×V)}{ys:List (List Key×Addr×Value)}(r:KT H more ys):∀{kvs:List (List Key×V)} {xs:List (List Key×Addr×Value)},KT H kvs xs->KT H (putAll kvs more) (kP xs ys):=by
 induction r with
 | nil=>intro kvs xs r;exact r
 | @cons p q ps qs f t ih=>
  intro kvs xs r
  have z:=r.put p.1 (b:=q.2.1) f.2.1 f.2.2
  have z2:=ih z
  rw[show kP xs (q::qs)=kP (storedH xs q.1 q.2.1 q.2.2) qs from rfl,<-show p.1=q.1 from f.1]
  exact z2
theorem IF{more:List (Z×V)}{ys:List (Z×Value)}(r:KV more ys):∀{kvs:List (Z×V)} {xs:List (Z×Value)},KV kvs xs->KV (putAll kvs more) (merged xs ys):=by
 induction r with
 | nil=>intro kvs xs r;exact r
 | @cons p q ps qs f t ih=>
  intro kvs xs r
  have z:=ih (KV.put r p.1 f.2)
  rw[show merged xs (q::qs)=merged (stored xs q.1 q.2) qs from rfl,<-show p.1=q.1 from f.1]
  exact z
end
section
variable{X:Cx}{c_:Qqz}{Z:St}{H:Hp}{s:Shared}{a b:Addr}{A:Around}{E:Qqq}
theorem M3{kvs:List (List Key×V)}{xs:List (List Key×Addr×Value)}(r:KT H kvs xs)(k:List Key):KT H (jV kvs k) (EA xs k):=by
 induction r with
 | nil=>exact .nil
 | @cons p q ps qs f t ih=>
  unfold jV EA
  by_cases e:p.1=k
  ·have e':q.1=k:=f.1.symm.trans e
   rw[aai (by simp[e]),aai (by simp[e'])]
   exact ih
  ·have e':¬q.1=k:=λz=>e (f.1.trans z)
   rw[YR (by simp[e]),YR (by simp[e'])]
   exact .cons f ih
theorem Ql{kvs more:List (List Key×V)}{Q:Qqq}(hu:A.units+1<cLine)(I:Inv X c_ Z H s)(ha:H a=some (.dT kvs))(hb:Rd H b (.dT more))(ne:a≠b)(h0:kvs≠[])(hz:kvs.length+more.length<=sizeLine)
  (h:∀s',Inv X c_ Z (upd H a (.dT (putAll kvs more))) s'->Q .none s'):wpAny (model X.prog X.w) A (call (.builtin "dict.update") [.ref a,.ref b]) Q E s:=by
 obtain⟨z,lo,xs,rel,dd⟩:=JV I.iK ha
 obtain⟨z2,YI,ys,LR,YJ⟩:=xS I.iK hb
 have l1:=aau rel
 have l2:=aau LR
 have x0:xs≠[]:=λe=>h0 (aaQ.mp (by rw[l1,e];rfl))
 refine Ku (abX hu) ne YI x0 dd YJ (by omega) λh' m hs=>h _ ?_
 obtain⟨q,es,ep,hq,h2,h3,h4,_,h5⟩:=m
 refine tf (t':=s.toks) I (by rw[ha];exact True.intro) hs ⟨q,hq⟩ ⟨aam (ql _ _) hz,lo,_,(kt_merged LR rel).keeps λc ys ec=>?_,q,es,ep,hq,h2,h3,h4,h5⟩
 rw[d_ (iS ec ha (λz=>nomatch z))]
 exact ec
theorem Qm{kvs more:List (Key×V)}{Q:Qqq}(I:Inv X c_ Z H s)(ha:H a=some (.dK kvs))(hb:Rd H b (.dK more))(ne:a≠b)(hz:kvs.length+more.length<=sizeLine)
  (h:∀s',Inv X c_ Z (upd H a (.dK (putAll kvs more))) s'->Q .none s'):wpAny (model X.prog X.w) A (call (.builtin "dict.update") [.ref a,.ref b]) Q E s:=by
 obtain⟨z,lo,xs,rel,dd⟩:=JU I.iK ha
 obtain⟨z2,YI,ys,LR,YJ⟩:=xR I.iK hb
 have l1:=rel.length
 have l2:=LR.length
 refine call_meetsIn acf dd.typeIs PySem.F.entry_dict_update (PySem.F.args_dict_update_2 _ _) (meets_dict_update (jd X.prog X.w) a b ne YI) ⟨xs,ys,dd,YJ,by omega,λh' Mq _ hs=>h _ ?_⟩
 have he:∃q,h'.get? a=some q:=let ⟨q,_,_,hq,_⟩:=Mq;⟨q,hq⟩
 exact tf (t':=s.toks) I (by rw[ha];exact True.intro) hs he (Gm (aam (ql _ _) hz) lo (IF LR rel) Mq)
theorem Qn{kvs:List (List Key×V)}{k:List Key}{v:V}{Q:Qqq}(hu:A.units+1<cLine)(I:Inv X c_ Z H s)(ha:H a=some (.dT kvs))(hb:H b=some (.tup (k.map kV)))(l:iN kvs k=some v)
  (h:∀w' s',Inv X c_ Z (upd H a (.dT (jV kvs k))) s'->RelV v w'->Q w' s'):wpAny (model X.prog X.w) A (call (.builtin "dict.pop") [.ref a,.ref b]) Q E s:=by
 obtain⟨z,lo,xs,rel,dd⟩:=JV I.iK ha
 have l1:=aau rel
 obtain⟨w',hw,Bw⟩:=pw.some_of (v:=v) (o:=(atKey xs k).map (·.2)) (by rw[<-l];exact rel.val k)
 obtain⟨p,hp,A7⟩:=Option.map_eq_some_iff.mp hw
 obtain⟨od,Wu,epd,Wv,Cn,O2,Rp,nj,Rq⟩:=id dd
 refine ab9 acs dd.typeIs PySem.F.entry_dict_pop ?_ (PySem.F.args_dict_pop_2 _ _)
 unfold Builtin.«dict.pop» Builtin.Dict.keyAndDefault
 refine UU (UU (wpAny_notOrdered_dict dd.typeIs (show wpAny _ _ (pure (a,Value.ref b,none)) _ _ s from aay ?_)))
 have part:(keyPart (Value.ref b)).isSome=false:=rfl
 simp only [part,aa9,aca]
 refine UU (abv Wv O2 (UU (aay ?_)))
 have ne:Wu.isEmpty=false:=by
  rw[ab2]
  intro e
  have e:Wu=#[]:=Array.isEmpty_iff.mp e
  have sz:=acw Rp
  rw[e] at sz
  have:xs=[]:=aaQ.mp sz.symm
  rw[this] at hp
  cases hp
 simp only [ne,aa9,aca]
 refine UU (Kt (abX hu) (um I.iK hb) dd (by omega) hp λh' m hs=>?_)
 simp only [Option.isNone_some,aa9,aca]
 refine UU (wpAny_letGo (aay ⟨p.2,rfl,?_⟩))
 rw[A7]
 refine h w' _ ?_ Bw
 obtain⟨q,es,ep,hq,h2,h3,h4,_,h5⟩:=m
 refine tf I (by rw[ha];exact True.intro) hs ⟨q,hq⟩ ⟨aam (Es _ _) z,lo,_,(M3 rel k).keeps λc ys ec=>?_,q,es,ep,hq,h2,h3,h4,h5⟩
 rw[d_ (iS ec ha (λz=>nomatch z))]
 exact ec
theorem M4{d:Addr}{es:Array DictEntry}{ep:Nat}{Q:Qqq}{P:Program}{w:World}(lo:(d ==sysModules)=false)(r:wU s.heap d es ep)(fit:(es.size:Int)<2 ^ 63)
  (h:Q (.int es.size (s.toks+1)) {s with toks:=s.toks+1+1}):wpAny (model P w) A (Builtin.«len» ⟨[.ref d],[]⟩) (λfin s'=>∃r,fin=.done (.ret r)/\Q r s') E s:=by
 obtain⟨o,ho,hc,hd⟩:=id r
 unfold Builtin.«len»
 refine UU (m:=oneArg "len" _) (aay (UU (m:=callSpecial? (.ref d) (Str.ofString "__len__")) (wpAny_callSpecial?_slot (name:=Str.ofString "__len__") r.ty F.slot_dict_len (ab9 F.slot_dict_len r.ty F.entry_dict_len ?_ (F.args_dict_len_1 _)))))
 show wpAny _ _ (dictSize d >>= _) _ _ s
 unfold dictSize
 refine UU (UU (abv ho hd (aay ?_)))
 show wpAny _ _ (Builtin.Dict.pendingCount d >>= _) _ _ s
 refine UU (wpAny_pendingCount_other lo (wpAny_ret_mkInt ?_))
 show wpAny _ _ _ _ _ {s with toks:=s.toks+1}
 refine UU (abS (aay (UU (wpAny_letGo ?_))))
 show wpAny _ _ (if((es.size+0:Nat):Int)<0 then _ else _) _ _ _
 rw[aav (by omega),Nat.add_zero]
 show wpAny _ _ (if((es.size:Nat):Int)>=2 ^ 63 then _ else _) _ _ _
 rw[aav (by omega)]
 exact UU (wpAny_mkInt (aay ⟨_,rfl,h⟩))
theorem Gw{d:Addr}{es:Array DictEntry}{ep:Nat}{Q:Bool->Shared->Prop}{P:Program}{w:World}(lo:(d ==sysModules)=false)(r:wU s.heap d es ep)(fit:(es.size:Int)<2 ^ 63)
  (h:Q ((es.size:Int) != 0) {s with toks:=s.toks+1+1}):wpAny (model P w) A (truthy (.ref d)) Q E s:=by
 have key:wpAny (model P w) A (runValue (.builtin "len" ⟨[.ref d],[]⟩)) (λr s'=>r=.int es.size (s.toks+1)/\Q ((es.size:Int) != 0) s') E s:=by
  refine wpAny_runValue (codeAny_builtin entry_len ?_)
  rw[Around.under_plainId plain_len _]
  refine abJ (M4 (Q:=λr s'=>r=.int es.size (s.toks+1)/\Q ((es.size:Int) != 0) s') lo r fit ⟨rfl,h⟩) (λfin s' h'=>?_) λ_ _ e=>e
  obtain⟨r,rfl,hq⟩:=h'
  exact hq
 unfold truthy
 first
  | refine UU (wpAny_callSpecial?_none (name:=Str.ofString "__bool__") r.ty noBool_dict ?_)
  | refine UU (aay (UU (wpAny_callSpecial?_none (name:=Str.ofString "__bool__") r.ty noBool_dict ?_)))
 first
  | refine UU (acu (name:=Str.ofString "__len__") r.ty F.slot_dict_len.lookup ?_)
  | refine UU (aay (UU (acu (name:=Str.ofString "__len__") r.ty F.slot_dict_len.lookup ?_)))
 first
  | exact UU (abJ key (λr s' h'=>by obtain⟨rfl,hq⟩:=h';exact aay hq) λ_ _ e=>e)
  | exact UU (aay (UU (abJ key (λr s' h'=>by obtain⟨rfl,hq⟩:=h';exact aay hq) λ_ _ e=>e)))
end
def Qo(td ty:TE):TE:=λZ H Q=>td Z H λx H1=>∃a,x=.ref a/\R4 H1 a/\ty Z H1 λy H2=>∃b kvs more,y=.ref b/\H2 a=some (.dT kvs)/\Rd H2 b (.dT more)/\a≠b/\kvs≠[]/\kvs.length+more.length<=sizeLine/\Q .jc (upd H2 a (.dT (putAll kvs more)))
def Qp(td ty:TE):TE:=λZ H Q=>td Z H λx H1=>∃a,x=.ref a/\R4 H1 a/\ty Z H1 λy H2=>∃b kvs more,y=.ref b/\H2 a=some (.dK kvs)/\Rd H2 b (.dK more)/\a≠b/\kvs.length+more.length<=sizeLine/\Q .jc (upd H2 a (.dK (putAll kvs more)))
def Qq(td ty:TE):TE:=λZ H Q=>td Z H λx H1=>∃a,x=.ref a/\R4 H1 a/\ty Z H1 λy H2=>∃b kvs k v,y=.ref b/\H2 a=some (.dT kvs)/\H2 b=some (.tup (k.map kV))/\iN kvs k=some v/\Q v (upd H2 a (.dT (jV kvs k)))
section
variable{X:Cx}{o e f:Expr}{apos kX:Pos}{td ty tx:TE}
theorem Kv(hu:X.A.units+1<cLine)(ho:PE X o td)(he:PE X e ty)(m:M1 X o "update" apos e kX):PE X (.Call (.Attribute o "update" apos) [e] [] kX) (Qo td ty):=by
 intro c_ s Z H Q I h
 refine wpAny_Call_method m.base m.jM m.line ab1 acf PySem.F.type_dict_update (i3 (ho c_ s Z H _ I h) λu s1 iH=>?_)
 obtain⟨x,H1,I1,rx,a,ex,d,q1⟩:=iH
 subst ex
 obtain rfl:u=Value.ref a:=rx
 obtain⟨t1,t2,_⟩:=zA I1 d
 refine⟨t1,t2,?_⟩
 rw[m.trees]
 refine abA rfl (abK (abx (i3 (he c_ s1 Z H1 _ I1 q1) λiv s2 iH=>?_)))
 obtain⟨y,H2,I2,ry,b,kvs,more,ey,ha,hb,ne,h0,hz,q2⟩:=iH
 refine abN ?_
 subst ey
 obtain rfl:iv=Value.ref b:=ry
 exact Ql hu I2 ha hb ne h0 hz λs3 I3=>⟨.jc,_,I3,rfl,q2⟩
theorem Kw(ho:PE X o td)(he:PE X e ty)(m:M1 X o "update" apos e kX):PE X (.Call (.Attribute o "update" apos) [e] [] kX) (Qp td ty):=by
 intro c_ s Z H Q I h
 refine wpAny_Call_method m.base m.jM m.line ab1 acf PySem.F.type_dict_update (i3 (ho c_ s Z H _ I h) λu s1 iH=>?_)
 obtain⟨x,H1,I1,rx,a,ex,d,q1⟩:=iH
 subst ex
 obtain rfl:u=Value.ref a:=rx
 obtain⟨t1,t2,_⟩:=zA I1 d
 refine⟨t1,t2,?_⟩
 rw[m.trees]
 refine abA rfl (abK (abx (i3 (he c_ s1 Z H1 _ I1 q1) λiv s2 iH=>?_)))
 obtain⟨y,H2,I2,ry,b,kvs,more,ey,ha,hb,ne,hz,q2⟩:=iH
 refine abN ?_
 subst ey
 obtain rfl:iv=Value.ref b:=ry
 exact Qm I2 ha hb ne hz λs3 I3=>⟨.jc,_,I3,rfl,q2⟩
theorem Kx(hu:X.A.units+1<cLine)(ho:PE X o td)(he:PE X e ty)(m:M1 X o "pop" apos e kX):PE X (.Call (.Attribute o "pop" apos) [e] [] kX) (Qq td ty):=by
 intro c_ s Z H Q I h
 refine wpAny_Call_method m.base m.jM m.line ab1 acs PySem.F.type_dict_pop (i3 (ho c_ s Z H _ I h) λu s1 iH=>?_)
 obtain⟨x,H1,I1,rx,a,ex,d,q1⟩:=iH
 subst ex
 obtain rfl:u=Value.ref a:=rx
 obtain⟨t1,t2,_⟩:=zA I1 d
 refine⟨t1,t2,?_⟩
 rw[m.trees]
 refine abA rfl (abK (abx (i3 (he c_ s1 Z H1 _ I1 q1) λiv s2 iH=>?_)))
 obtain⟨y,H2,I2,ry,b,kvs,k,v,ey,ha,hb,l,q2⟩:=iH
 refine abN ?_
 subst ey
 obtain rfl:iv=Value.ref b:=ry
 exact Qn hu I2 ha hb l λw' s3 I3 Bw=>⟨v,_,I3,Bw,q2⟩
theorem IG{a:Expr}{ta:TE}(ha:PE X a ta)(he:∀whole,isTrue a X.env whole=(do let v <-whole;standAt a.pos;holding [v] (truthy v))) :
  PT X a (λZ H Q=>ta Z H λx H'=>∃p kvs,x=.ref p/\H' p=some (.dT kvs)/\Q (!kvs.isEmpty) H'):=by
 intro c_ s Z H Q I h
 refine isTrue_plain (i3 (ha c_ s Z H _ I h) λv s1 iH=>?_) (he _)
 obtain⟨x,H1,I1,r1,p,kvs,ex,hp,q⟩:=iH
 subst ex
 obtain rfl:v=Value.ref p:=r1
 obtain⟨lo,hz,es,ep,raw,sz,_⟩:=zL (I1.iK p _ hp)
 have hs:sizeLine=16777216:=acG
 refine Gw lo raw (by omega) ?_
 have e:((es.size:Int) != 0)=!kvs.isEmpty:=by rw[sz];cases kvs<;>simp<;>omega
 rw[e]
 exact⟨H1,I1.tok _,q⟩
end
theorem IH:bootBuiltins "enumerate"=some (.type "enumerate"):=by decide+kernel
section
variable{X:Cx}{c_:Qqz}{Z:St}{H:Hp}{s:Shared}{h':Heap}
theorem Inv.M5{t':Nat}{a b:Addr}(I:Inv X c_ Z H s)(k:∀c o,c≠a->c≠b->s.heap.get? c=some o->h'.get? c=some o)(fa:uj X c_ H a)(fb:uj X c_ H b)
  (ha:∃o,h'.get? a=some o) (hb:∃o,h'.get? b=some o):Inv X c_ Z H {s with heap:=h',toks:=t'}:=by
 obtain⟨a0,a1,a2,a3,a4,a5⟩:=fa
 obtain⟨b0,b1,b2,b3,b4,b5⟩:=fb
 have na:∀c u,H c=some u->c≠a:=λc u e z=>by rw[z,a0] at e;cases e
 have nb:∀c u,H c=some u->c≠b:=λc u e z=>by rw[z,b0] at e;cases e
 have out:∀c,c∉[a,b]->c≠a/\c≠b:=λc hc=>⟨λz=>hc (by simp[z]),λz=>hc (by simp[z])⟩
 refine I.step (g':=s.gens) (d':=s.drawn) (ch:=[a,b]) (λc hc=>?_) (λc o _ _ hc e _=>k c o (out c hc).1 (out c hc).2 e) (λc o _ _ hc e _=>⟨o.slots,k c o (out c hc).1 (out c hc).2 e⟩) (λ_ _ _ _ n=>n)
  (λc o hc e=>⟨o,k c o (out c hc).1 (out c hc).2 e⟩) (λ_ _ e=>e) (λ_ _ _ e=>e) (λc ps e=>⟨#[],by rw[e];simp⟩) (λm hm=>?_) (λc u e=>?_) I.bare
 ·rcases aag.mp hc with z|z
  ·rw[z];exact⟨a3,a1,a4,a5⟩
  ·rw[XS.mp z];exact⟨b3,b1,b4,b5⟩
 ·obtain⟨o,es,ep,ho,r⟩:=hm
  exact⟨o,es,ep,k _ o (ab0 a1) (ab0 b1) ho,r⟩
 ·refine(I.iK c u e).zq (λd v hd q=>k d v ?_ ?_ q) (λ_ q=>q) λ_ _ q=>q
  ·rcases hd with z|z
   ·rw[z];exact na c u e
   ·exact na d _ z
  ·rcases hd with z|z
   ·rw[z];exact nb c u e
   ·exact nb d _ z
end
def TH(t:TT):TT:=λZ H Q=>∃M:Bool->Hp->Prop,t Z H M/\∀b H',M b H'->Q b H'
theorem Ky{X:Cx}{e:Expr}{t:TT}(h:PT X e t):PT X e (TH t):=λc_ s Z H Q I ⟨M,h1,h2⟩=>i3 (h c_ s Z H M I h1) λb s' ⟨H',I',q⟩=>⟨H',I',h2 b H' q⟩
noncomputable def TJ(K:Qqy)(a:Addr):It:=
 ⟨λi H=>∃xs x,gC K H a xs/\xs[i]?=some x,λi H x H'=>∃t y,H t=none/\x=.ref t/\H'=upd H t (.tup [.int i,y])/\∀xs,gC K H a xs->xs[i]?=some y,λi H=>∃xs,gC K H a xs/\xs.length<=i⟩
theorem II{P:Program}{w:World}{K:Qqy}{elts:List Expr}{x1}{pos:Pos}(a e it:Addr)(oa:e≠it):Turn P w K (.Tuple elts x1 pos) (TJ K a) [e,it] e (λi h=>(∃old,IsEnum h e it ((i:Nat):Int) old)/\h.IsListIter it a i) where
 mem:=by simp
 obj:=λi h ⟨⟨old,Jr⟩,Bv⟩ b hb=>by
  rcases aag.mp hb with z|z
  ·subst z;exact⟨_,Jr,λv z=>by have z':Data.fields _=Data.cell v:=z;cases z'⟩
  ·rw[XS.mp z]
   obtain⟨o,ho,c,d⟩:=Bv
   exact⟨o,ho,λv z=>by rw[d] at z;cases z⟩
 keep:=λi h h' ⟨⟨old,Jr⟩,Bv⟩ k=>⟨⟨old,k e (by simp) _ Jr⟩,Bv.at λo ho=>k it (by simp) o ho⟩
 item:=by
  intro X hP hw hK hc i c_ s Z H E I hf ⟨⟨old,Jr⟩,Bv⟩ hg
  subst hP hw hK
  obtain⟨xs,x,hq,hx⟩:=hg
  obtain⟨hE,rv,p,hz⟩:=I.list hq
  obtain⟨u,hu,ru⟩:=rv.get hx
  have fe:=hf e (by simp)
  have fi:=hf it (by simp)
  have YK:e<s.heap.objs.size:=aaJ Jr
  refine wpAny_pyNext_enum_item Jr Bv p.isList (x:=u) (by simpa using hu) oa λh₁ LJ YL ht1 hz1 hk1=>?_
  refine⟨_,rfl,?_⟩
  refine wpAny_letOwnedTupleGo_enum LJ λh₂ he2 UO=>?_
  replace UO:Heap.SameBut e h₁ h₂:=UO
  have ht2:h₂.get? s.heap.objs.size=some {cls:=.type "tuple",data:=.seq #[.int i s.toks,u]}:=(UO.2 _ (Nat.ne_of_gt YK)).trans ht1
  have UP:h₂.IsListIter it a (i+1):=YL.extBut UO.extBut (ab0 oa)
  have hfr:H s.heap.objs.size=none:=I.iK.fresh (XU _)
  have rT:Vals [.int i,x] [.int i s.toks,u]:=.cons ⟨s.toks,rfl⟩ (.cons ru .nil)
  have I1:Inv X c_ Z (upd H s.heap.objs.size (.tup [.int i,x])) {s with heap:=s.heap.push {cls:=.type "tuple",data:=.seq #[.int i s.toks,u]},toks:=s.toks}:=
   I.laid (t':=s.toks) (λb u e=>aaB _ e) (XU _) ⟨L2.jM,_,rT,⟨_,aaN _ rfl,rfl,_,rfl⟩⟩
  have up:∀b,uj X c_ H b->b<s.heap.objs.size->uj X c_ (upd H s.heap.objs.size (.tup [.int i,x])) b:=λb f hb=>by
   obtain⟨f0,r⟩:=f
   exact⟨by rw[d_ (aa0 hb)];exact f0,r⟩
  have Sm:it<s.heap.objs.size:=by obtain⟨o,ho,_⟩:=id Bv;exact aaJ ho
  obtain⟨oi,Wx,_⟩:=id UP
  have I2:=I1.M5 (h':=h₂) (t':=s.toks+1) (a:=e) (b:=it) (λc o h1 h2 hc=>?_) (up e fe YK) (up it fi Sm) ⟨_,he2⟩ ⟨oi,Wx⟩
  ·refine⟨.ref s.heap.objs.size,_,I2,rfl,⟨_,x,hfr,rfl,rfl,λys hy=>by rw[I.pA hy hq];exact hx⟩,⟨⟨u,?_⟩,UP⟩,λb hb=>?_⟩
   ·have:((i+1:Nat):Int)=(i:Int)+1:=by push_cast;rfl
    rw[this];exact he2
   ·rcases aag.mp hb with z|z
    ·subst z;exact(up _ fe YK).1
    ·rw[XS.mp z];exact(up it fi Sm).1
  ·by_cases Wy:c=s.heap.objs.size
   ·subst Wy
    have:(s.heap.push {cls:=.type "tuple",data:=.seq #[.int i s.toks,u]}).get? s.heap.objs.size=some {cls:=.type "tuple",data:=.seq #[.int i s.toks,u]}:=aaN _ rfl
    rw[this] at hc;cases hc
    exact ht2
   ·have Bu:s.heap.get? c=some o:=(Heap.get?_push_cases hc).elim (λz=>absurd z.1 Wy) id
    exact(UO.2 c h1).trans (hk1 c o h1 h2 Bu)
 done:=by
  intro X hP hw hK hc i c_ s Z H E I hf ⟨⟨old,Jr⟩,Bv⟩ hg
  subst hP hw hK
  obtain⟨xs,hq,hx⟩:=hg
  obtain⟨hE,rv,p,hz⟩:=I.list hq
  obtain⟨f0,f1,f2,f3,f4,f5⟩:=hf it (by simp)
  have hl:=rv.length
  exact wpAny_pyNext_enum_end (I.ok.hd hc) Jr Bv p.isList (Array.getElem?_eq_none (by simp;omega)) λh' eb=>⟨rfl,I.turned (t':=s.toks) (λb o hb e=>eb b o hb e) f0 f1 f3 f4 f5⟩
 self:=λ_ _ _ _ _ ⟨⟨old,Jr⟩,Bv⟩ h=>wpAny_pyIter_enum Jr h
def TK(K:Qqy)(ta:TA):TI:=λZ H R=>ta Z H λvs H1=>∃a,vs=[.ref a]/\(∃xs,gC K H1 a xs)/\R (TJ K a) H1
section
variable{X:Cx}
theorem M6{a:Expr}{ta:TA}{p pos:Pos}{elts:List Expr}{x1}{Rg:Pos}(hg:Gl X "enumerate")(hm:X.mg "enumerate"=none)(ha:PA X [a] ta)(hs:starEach [a] X.env=[(false,eval a X.env)]:=by rfl):PI X (.Tuple elts x1 Rg) (.Call (.Name "enumerate" p) [a] [] pos) (TK X.K ta):=by
 intro c_ s Z H R I h
 refine Call_ (oZ I hg hm IH (abg (i3 (ha pos c_ s Z H _ I h) λus s1 iH=>?_) hs rfl))
 obtain⟨vs,H1,I1,r1,q1⟩:=iH
 obtain⟨l,rfl,⟨xs,hq⟩,q⟩:=q1
 obtain⟨u,rfl,ru⟩:=vals1 r1
 cases (show u=Value.ref l from ru)
 obtain⟨hE,rv,pp,hz⟩:=I1.list hq
 refine call_enumerate_list pp.isList λh' he hit hsz hk=>?_
 have I2:Inv X c_ Z H1 {s1 with heap:=h'}:=I1.kept (t':=s1.toks) hk
 refine wpAny_pyIter_enum he ?_
 refine⟨s1.heap.objs.size+1,[s1.heap.objs.size+1,s1.heap.objs.size],_,_,H1,rfl,I2,II l (s1.heap.objs.size+1) s1.heap.objs.size (Nat.succ_ne_self _),⟨⟨_,he⟩,hit⟩,λb hb=>?_,q⟩
 rcases aag.mp hb with z|z
 ·subst z;exact I1.zr (by omega) (I1.iK.fresh (by omega))
 ·rw[XS.mp z];exact I1.zr (XU _) (I1.iK.fresh (XU _))
theorem Kz{K:PySem.W.Frag}{a:Addr}{xs:List V}{g:TG}{tb:TS}{D:Ends}{Z:St}{H:Hp}(Pv:Nat->St->Hp->Prop)(h0:Pv 0 Z H)(hl:∀i Z H,i<=xs.length->Pv i Z H->gC K H a xs)
  (hs:∀i x t Z H,xs[i]?=some x->Pv i Z H->H t=none->g (.ref t) Z (upd H t (.tup [.int i,x])) λZ2 H2=>tb {D with nx:=Pv (i+1),ct:=Pv (i+1),bk:=D.nx} Z2 H2) (hd:∀Z H,Pv xs.length Z H->D.nx Z H) :
  ∃W:Nat->Nat->St->Hp->Prop,(∃m,W 0 m Z H)/\∀i m Z H,W i m Z H->
   ((TJ K a).stop i H/\D.nx Z H)\/((TJ K a).go i H/\∃N:St->Hp->Prop,(∀Z' H',N Z' H'->∃m',m'<m/\W (i+1) m' Z' H')/\∀x H',(TJ K a).JJ i H x H'->g x Z H' λZ2 H2=>tb {D with nx:=N,ct:=N,bk:=D.nx} Z2 H2):=by
 refine⟨λi m Z H=>m=xs.length-i/\i<=xs.length/\Pv i Z H,⟨xs.length,by simp,aaY _,h0⟩,?_⟩
 rintro i m Z H ⟨rfl,hi,p⟩
 have q:=hl i Z H hi p
 by_cases j3:i<xs.length
 ·refine .inr ⟨⟨xs,xs[i],q,UQ j3⟩,Pv (i+1),λZ' H' p'=>⟨xs.length-(i+1),by omega,rfl,j3,p'⟩,λx H' y=>?_⟩
  obtain⟨t,z,ht,rfl,rfl,y⟩:=y
  exact hs i z t Z _ (y xs q) p ht
 ·have e:i=xs.length:=by omega
  subst e
  exact .inl ⟨⟨xs,q,XU _⟩,hd Z H p⟩
end
structure DF(K:Qqy)(mg:Qqx)(x:Str)(st:Stmt)(a:Addr)(d:FuncData)(ps:List Str):Prop where
 f:xT K x x st a d
 b:Binds K d ps []
 m:mg x=some (.ref a)
structure DM(K:Qqy)(C:Addr)(x q:Str)(st:Stmt)(a:Addr)(d:FuncData)(ps:List Str):Prop where
 f:xT K x q st a d
 b:Binds K d ps []
 t:Meth K C x a
def FI(K:Qqy)(x:Str)(st:Stmt)(f:Addr):Prop:=W.nsIn K mainGlobals x=some (some (.ref f))/\∃d,xT K x x st f d
def MI(K:Qqy)(C:Addr)(x q:Str)(st:Stmt)(f:Addr):Prop:=Meth K C x f/\∃d,xT K x q st f d
section
variable{K:Qqy}{x q:Str}{st:Stmt}{f C:Addr}{oc kV doc pm ju ct:Value}{od an:Option Addr}{JA:Array (Option Value)}
theorem TL(a:W.nsIn K mainGlobals x=some (some (.ref f)))(l:K.lookup f=some ⟨oc,od,.func (W.fnOf x x (oB st) (lg st) (gb st) .none kV doc pm an ju ct),JA⟩)(c:W.codeIn K ju x=true)(k:W.keepIn K (.ref f)=true):FI K x st f:=⟨a,_,J2 l c k⟩
theorem TM(a:W.findIn K (.ref C) x=some (some (.ref f)))(i:W.isFn K (.ref f)=true)(l:K.lookup f=some ⟨oc,od,.func (W.fnOf x q (oB st) (lg st) (gb st) .none kV doc pm an ju ct),JA⟩)(c:W.codeIn K ju q=true)(k:W.keepIn K (.ref f)=true):MI K C x q st f:=⟨⟨a,i,k⟩,_,J2 l c k⟩
end
theorem KA{X:Cx}{st:Stmt}{t:TS}(h:PS X st t):PS X st (λD Z H=>∃d o u,H d=some (.ni o u)/\zK X d/\t D Z (upd H d u)):=λc_ s Z H D I ⟨d,o,u,hd,nf,q⟩=>h c_ s Z _ D (I.wO hd nf) q
noncomputable def scT(N P:List Str)(sc:Scope):Bool:=decide (sc.kind=.function)&&!sc.isCoroutine&&!sc.isGenerator&&decide N.Nodup&&decide (N.take P.length=P)&&P.all (λx=>decide (sc.names.lookup x=some .local)||decide (sc.names.lookup x=some .cell))&&sc.names.all (λy=>decide (y.2≠.free))
theorem mR{N P:List Str}{sc:Scope}(h:scT N P sc=true:=by decide+kernel):gw N P sc:=by
 unfold scT at h
 simp only [abm,ace,Bool.not_eq_true',abC,acH] at h
 obtain⟨⟨⟨⟨⟨⟨a,b⟩,c⟩,d⟩,e⟩,f⟩,g⟩:=h
 exact⟨a,b,c,d,e,f,g⟩
section
variable{X:Cx}{x q m:Str}{st:Stmt}{f C:Addr}{fd:FuncData}{ps:List Str}{sp:Sp}{k j:Nat}{e o:Expr}{es:List Expr}{t:TA}{ta:TE}{p pos apos:Pos}{E:XK}
theorem og(D:DF X.K X.mg x st f fd ps)(F:ig X.prog X.w X.K X.mg X.base mK k f fd ps sp)(hr:kD j X.A)(ha:PA X (e::es) t)(hk:k<=j:=by decide)(hg:Gl X x:=by rfl)(G1:(x ==("__debug__":Str))=false:=by decide)(he:starEach (e::es) X.env=(false,eval e X.env)::starEach es X.env:=by rfl)(nJ:(backTo pos (starEach es X.env)).any (·.1)=false:=by rfl):PE X (.Call (.Name x p) (e::es) [] pos) (JO sp [] E0 t):=uX F (hr.mono hk) hg D.m D.f.kp D.b .nil pE ha G1 he nJ
theorem XX(b:Bx X E)(D:DF X.K X.mg x st f fd ps)(F:ig X.prog X.w X.K X.mg X.base (tT X.prog X.w) k f fd ps sp)(hr:kD j X.A)(ha:PA X (e::es) t)(hk:k<=j:=by decide)(hg:Gl X x:=by rfl)(G1:(x ==("__debug__":Str))=false:=by decide)(he:starEach (e::es) X.env=(false,eval e X.env)::starEach es X.env:=by rfl)(nJ:(backTo pos (starEach es X.env)).any (·.1)=false:=by rfl):PE X (.Call (.Name x p) (e::es) [] pos) (JO sp [] E t):=uX F (hr.mono hk) hg D.m D.f.kp D.b .nil (OC b) ha G1 he nJ
theorem xV{pl:Sem Bool}(h:PE X o ta)(c:FN X.K C)(D:DM X.K C m q st f fd ps)(F:ig X.prog X.w X.K X.mg X.base mK k f fd ps sp)(hr:kD j X.A)(ha:PA X (e::es) t)(hk:k<=j:=by decide)(uG:starEach (e::es) X.env=(false,eval e X.env)::starEach es X.env:=by rfl)(nJ:(backTo pos (starEach es X.env)).any (·.1)=false:=by rfl)
 (ht:eval (.Call (.Attribute o m apos) (e::es) [] pos) X.env=(do
  let ov <-eval o X.env
  standAt apos.atName
  let (f,first) <-holding [ov] (getMethod ov m pl)
  callWith pos f first (backTo pos (starEach (e::es) X.env)) (backToKw pos (keywordEach [] X.env))):=by rfl):PE X (.Call (.Attribute o m apos) (e::es) [] pos) (Hm C m sp [] E0 ta t):=Hn h c D.t F (hr.mono hk) D.b .nil pE ha uG nJ ht
theorem zN(b:Bx X E){pl:Sem Bool}(h:PE X o ta)(c:FN X.K C)(D:DM X.K C m q st f fd ps)(F:ig X.prog X.w X.K X.mg X.base (tT X.prog X.w) k f fd ps sp)(hr:kD j X.A)(ha:PA X (e::es) t)(hk:k<=j:=by decide)(uG:starEach (e::es) X.env=(false,eval e X.env)::starEach es X.env:=by rfl)(nJ:(backTo pos (starEach es X.env)).any (·.1)=false:=by rfl)
 (ht:eval (.Call (.Attribute o m apos) (e::es) [] pos) X.env=(do
  let ov <-eval o X.env
  standAt apos.atName
  let (f,first) <-holding [ov] (getMethod ov m pl)
  callWith pos f first (backTo pos (starEach (e::es) X.env)) (backToKw pos (keywordEach [] X.env))):=by rfl):PE X (.Call (.Attribute o m apos) (e::es) [] pos) (Hm C m sp [] E ta t):=Hn h c D.t F (hr.mono hk) D.b .nil (OC b) ha uG nJ ht
end
section
variable{P:Program}{w:World}{K:Qqy}{mg:Qqx}{base:Heap}
theorem xT.rA{x qual:Str}{st:Stmt}{f:Addr}{fd:FuncData}{N ps:List Str}{k:Nat}{sp:Sp}(F:xT K x qual st f fd)(S:gw N ps (gb st))(wk:∀(ju:Value)(A:Around)(outer:List Env)(s:Shared)(H:Hp)(vs:List V)(Q:VK)(E:XK),kD k (A.deeper (envOfC qual (gb st) s.heap.objs.size f ju))->sp vs H Q E->∃t,FL (wF mK P w K mg base N qual (gb st) f ju A outer s H E).S6 (lg st) t/\t {nx:=λ_ H'=>Q .jc H',rt:=Q} (start N vs) H)(len:∀vs H Q E,sp vs H Q E->vs.length=ps.length:=by intro _ _ _ _ h;repeat (first|(obtain⟨rfl,_⟩:=h;rfl)|obtain⟨_,h⟩:=h)):ig P w K mg base mK (k+1) f fd ps sp:=F.ok S len wk
theorem xT.rB{x qual:Str}{st:Stmt}{f:Addr}{fd:FuncData}{N ps:List Str}{k:Nat}{sp:Sp}(F:xT K x qual st f fd)(S:gw N ps (gb st))(wk:∀(ju:Value)(A:Around)(outer:List Env)(s:Shared)(H:Hp)(vs:List V)(Q:VK)(E:XK),kD k (A.deeper (envOfC qual (gb st) s.heap.objs.size f ju))->sp vs H Q E->∃t,FL (wF (tT P w) P w K mg base N qual (gb st) f ju A outer s H E) (lg st) t/\t {nx:=λ_ H'=>Q .jc H',rt:=Q} (start N vs) H)(len:∀vs H Q E,sp vs H Q E->vs.length=ps.length:=by intro _ _ _ _ h;repeat (first|(obtain⟨rfl,_⟩:=h;rfl)|obtain⟨_,h⟩:=h)):ig P w K mg base (tT P w) (k+1) f fd ps sp:=F.ok1 S len wk
end
section
variable{X:Cx}{pos:Pos}
theorem k7(i:Nat){x:Str}{e:Expr}{te:TE}{pos':Pos}{N ps:List Str}{sc:Scope}(S:gw N ps sc)(he:PE X e te)(hN:X.N=N:=by rfl)(hi:X.N[i]?=some x:=by rfl)(hx:X.env.scope.names.lookup x=some .local:=by rfl)(hs:swapsWith e (some (.Name x pos')) pos.line X.env=pure false:=by rfl):PS X (.Assign [.Name x pos'] e pos) (JI te (l7 i)):=ly (hN▸S.nd) hi (.inl hx) he hs (.inr hx)
theorem tL(i:Nat){x:Str}{N ps:List Str}{sc:Scope}(S:gw N ps sc)(hN:X.N=N:=by rfl)(hi:X.N[i]?=some x:=by rfl)(hx:X.env.scope.names.lookup x=some .local:=by rfl):PG X (.Name x pos) (l7 i):=iu (hN▸S.nd) hi (.inl hx) (.inr hx)
end
section
variable{K:Qqy}
theorem xT.bd{x qual:Str}{st:Stmt}{f:Addr}{fd:FuncData}{ps:List Str}(F:xT K x qual st f fd)(h:∀(kV doc pm:Value)(an:Option Addr)(ju ct:Value)(us:List Value),us.length=ps.length->bindArgs (W.fnOf x qual (oB st) (lg st) (gb st) .none kV doc pm an ju ct) ⟨us,[]⟩=pure (ps.zip us):=by intro _ _ _ _ _ _ us hl;(repeat (rcases us with _|⟨_,us⟩<;>first|(simp at hl;done)|skip));rfl):Binds K fd ps []:=F.binds h
end
section
variable{X:Cx}{a b:Expr}{ta tb:TE}{pos:Pos}{k:Nat}
theorem kK(ha:PE X a ta)(hb:PE X b tb)(hs:Hr b:=by exact λ_ _=>rfl):PE X (.Subscript a b pos) (Wb (Tq X.K) ta tb):=jq kL ha hb hs
theorem zO(hr:kD k X.A)(ha:PE X a ta)(hb:PE X b tb)(hs:P8 b:=by exact λ_ _=>rfl):PE X (.Subscript a b pos) (OA ta tb):=MQ (iT hr) ha hb hs
theorem zb(h:PE X a ta)(e:ta=tb:=by(try simp only [kO]);rfl):∃t,PE X a t/\t=tb:=⟨_,h,e⟩
end
end L2
namespace K01
section
variable{Z:Type}[DecidableEq Z]
def lcs:List Z->List Z->Nat
 | [],_=>0
 | _::_,[]=>0
 | a::as,b::bs=>if b=a then lcs as bs+1 else max (lcs as (b::bs)) (lcs (a::as) bs)
termination_by x y=>x.length+y.length
def nP(x y:List Z)(n:Nat):Prop:=(∀s:List Z,s.Sublist x->s.Sublist y->s.length<=n)/\∃s:List Z,s.Sublist x/\s.Sublist y/\s.length=n
theorem nP.uniq{x y:List Z}{n m:Nat}(h:nP x y n)(g:nP x y m):n=m:=by
 obtain⟨h1,s,a,b,e⟩:=h
 obtain⟨g1,t,c,d,f⟩:=g
 have:=g1 s a b
 have:=h1 t c d
 omega
theorem nP.ED(y:List Z):nP [] y 0:=⟨λs a _=>by have:=a.length_le;simpa using this,[],aaU _,List.nil_sublist _,rfl⟩
theorem nP.BU(x:List Z):nP x [] 0:=⟨λs _ b=>by have:=b.length_le;simpa using this,[],List.nil_sublist _,aaU _,rfl⟩
theorem lP{s as:List Z}{a:Z}(h:s.Sublist (a::as)):s.Sublist as\/∃t,s=a::t/\t.Sublist as:=by
 cases h with
 | cons _ h=>exact .inl h
 | cons_cons _ h=>exact .inr ⟨_,rfl,h⟩
theorem nP.eq{as bs:List Z}{a:Z}{n:Nat}(h:nP as bs n):nP (a::as) (a::bs) (n+1):=by
 obtain⟨h1,s,x,y,e⟩:=h
 refine⟨λt c d=>?_,a::s,x.cons_cons a,y.cons_cons a,by rw[aah,e]⟩
 rcases lP c with c2|⟨u,e2,c2⟩
 ·rcases lP d with d2|⟨v,e3,d2⟩
  ·have:=h1 t c2 d2;omega
  ·subst e3
   have:=h1 v ((abL a v).trans c2) d2
   rw[aah];omega
 ·have d':u.Sublist bs:=by
   subst e2
   rcases lP d with d2|⟨v,e',d2⟩
   ·exact(abL a u).trans d2
   ·cases e';exact d2
  have:=h1 u c2 d'
  subst e2
  rw[aah];omega
theorem nP.ne{as bs:List Z}{a b:Z}{n m:Nat}(G3:a≠b)(h:nP as (b::bs) n)(g:nP (a::as) bs m):nP (a::as) (b::bs) (max n m):=by
 obtain⟨h1,s,x,y,e⟩:=h
 obtain⟨g1,s',x',y',e'⟩:=g
 refine⟨λt c d=>?_,?_⟩
 ·rcases lP c with c'|⟨u,rfl,_⟩
  ·have:=h1 t c' d;omega
  ·rcases lP d with d'|⟨v,e,_⟩
   ·have:=g1 _ c d';omega
   ·cases e;exact absurd rfl G3
 ·by_cases Rr:m<=n
  ·exact⟨s,x.cons a,y,by omega⟩
  ·exact⟨s',x',y'.cons b,by omega⟩
theorem j5:∀x y:List Z,nP x y (lcs x y)
 | [],y=>by rw[lcs];exact .ED y
 | a::as,[]=>by rw[lcs];exact .BU _
 | a::as,b::bs=>by
  rw[lcs]
  by_cases h:b=a
  ·rw[aax h];subst h;exact(j5 as bs).eq
  ·rw[aav h];exact .ne (λe=>h e.symm) (j5 as (b::bs)) (j5 (a::as) bs)
termination_by x y=>x.length+y.length
theorem M7(x:List Z):lcs x []=0:=(j5 x []).uniq (.BU x)
theorem Hu(y:List Z):lcs [] y=0:=(j5 [] y).uniq (.ED y)
theorem zP{x x' y y':List Z}(h:x.Sublist x')(g:y.Sublist y'):lcs x y<=lcs x' y':=by
 obtain⟨_,s,a,b,e⟩:=j5 x y
 rw[<-e]
 exact(j5 x' y').1 s (a.trans h) (b.trans g)
theorem EE(x y:List Z):lcs x y<=x.length:=by
 obtain⟨_,s,a,b,e⟩:=j5 x y
 rw[<-e];exact a.length_le
noncomputable def i7(a:Z)(new:List Z)(j:Nat):Option Nat:=((new.drop j).findIdx? (·=a)).map (j+·)
noncomputable def pG(new:List Z):Nat->List Z->Nat->List (Nat×Nat)
 | _,[],_=>[]
 | i,a::as,j=>match i7 a new j with
  | none=>pG new (i+1) as j
  | some k=>if lcs as (new.drop (k+1))+1=lcs (a::as) (new.drop j) then(i,k)::pG new (i+1) as (k+1) else pG new (i+1) as j
noncomputable def kept(old new:List Z):List (Nat×Nat):=pG new 0 old 0
theorem kE{a:Z}{new:List Z}{j k:Nat}(h:i7 a new j=some k):j<=k/\new[k]?=some a/\∀l,j<=l->l<k->new[l]?≠some a:=by
 unfold i7 at h
 cases e:(new.drop j).findIdx? (·=a) with
 | none=>rw[e] at h;cases h
 | some d=>
  rw[e] at h
  have h:j+d=k:=aaE h
  subst h
  obtain⟨hd,h1,h2⟩:=List.findIdx?_eq_some_iff_getElem.mp e
  have h1:(new.drop j)[d]=a:=by simpa using h1
  refine⟨Nat.le_add_right _ _,?_,λl hl hk q=>?_⟩
  ·rw[<-aco,UQ hd,h1]
  ·have:=h2 (l-j) (by omega)
   have hq:(new.drop j)[l-j]?=some a:=by rw[aco,show j+(l-j)=l by omega];exact q
   obtain⟨hh,he⟩:=List.getElem?_eq_some_iff.mp hq
   simp[he] at this
theorem nQ{a:Z}{new:List Z}{j:Nat}(h:i7 a new j=none):∀l,j<=l->new[l]?≠some a:=by
 unfold i7 at h
 cases e:(new.drop j).findIdx? (·=a) with
 | some d=>rw[e] at h;cases h
 | none=>
  intro l hl q
  have hq:(new.drop j)[l-j]?=some a:=by rw[aco,show j+(l-j)=l by omega];exact q
  have:=List.findIdx?_eq_none_iff.mp e a (XY hq)
  simp at this
theorem KC{a:Z}{as y:List Z}(h:a∉y):lcs (a::as) y=lcs as y:=by
 refine(j5 (a::as) y).uniq ⟨λs c d=>?_,?_⟩
 ·rcases lP c with c|⟨t,rfl,c⟩
  ·exact(j5 as y).1 s c d
  ·exact absurd (d.subset aaC) h
 ·obtain⟨_,s,c,d,e⟩:=j5 as y
  exact⟨s,c.cons a,d,e⟩
theorem qm{new:List Z}{k:Nat}{a:Z}(h:new[k]?=some a):new.drop k=a::new.drop (k+1):=by
 obtain⟨hk,e⟩:=List.getElem?_eq_some_iff.mp h
 rw[aa6 hk,e]
theorem zQ{new:List Z}{j k:Nat}(h:j<=k):(new.drop k).Sublist (new.drop j):=by
 have:new.drop k=(new.drop j).drop (k-j):=by rw[List.drop_drop];congr 1;omega
 rw[this];exact List.drop_sublist _ _
theorem CK{a:Z}{as new:List Z}{j l:Nat}(hl:j<=l)(h:new[l]?=some a):lcs as (new.drop (l+1))+1<=lcs (a::as) (new.drop j):=by
 have:lcs (a::as) (new.drop l)<=lcs (a::as) (new.drop j):=zP (aaU _) (zQ hl)
 rw[qm h,lcs,aax rfl] at this
 exact this
theorem zR{a:Z}{as new:List Z}{j k:Nat}(h:i7 a new j=some k)(oa:lcs as (new.drop (k+1))+1≠lcs (a::as) (new.drop j)):lcs (a::as) (new.drop j)=lcs as (new.drop j):=by
 obtain⟨UR,hk,N4⟩:=kE h
 have h1:=CK (as:=as) UR hk
 have h2:lcs as (new.drop j)<=lcs (a::as) (new.drop j):=zP (abL a as) (aaU _)
 obtain⟨hs,s,c,d,e⟩:=j5 (a::as) (new.drop j)
 rcases lP c with c2|⟨t,es,c2⟩
 ·have:=(j5 as (new.drop j)).1 s c2 d;omega
 ·exfalso
  subst es
  have key:∀(n:Nat)(j:Nat),k-j=n->j<=k->(∀l,j<=l->l<k->new[l]?≠some a)->(a::t).Sublist (new.drop j)->t.Sublist (new.drop (k+1)):=by
   intro n
   induction n with
   | zero=>
    intro j e1 e2 _ d
    have:j=k:=by omega
    subst this
    rw[qm hk] at d
    rcases lP d with d|⟨u,e,d⟩
    ·exact(abL a t).trans d
    ·cases e;exact d
   | succ n ih=>
    intro j e1 e2 hm d
    have hj:j<new.length:=by
     have:=(List.getElem?_eq_some_iff.mp hk).1;omega
    rw[aa6 hj] at d
    rcases lP d with d|⟨u,e,_⟩
    ·exact ih (j+1) (by omega) (by omega) (λl hl=>hm l (by omega)) d
    ·exfalso
     have e0:a=new[j]:=(List.cons.inj e).1
     exact hm j (XU _) (by omega) (by rw[UQ hj,<-e0])
  have ht:=key _ j rfl UR N4 d
  have:=(j5 as (new.drop (k+1))).1 t c2 ht
  rw[aah] at e
  omega
theorem IJ{a:Z}{as new:List Z}{j:Nat}(h:i7 a new j=none):lcs (a::as) (new.drop j)=lcs as (new.drop j):=by
 refine KC λm=>?_
 obtain⟨l,hl⟩:=aaT.mp m
 rw[aco] at hl
 exact nQ h (j+l) (Nat.le_add_right _ _) hl
theorem lQ(new:List Z):∀(old:List Z)(i j:Nat),(pG new i old j).length=lcs old (new.drop j)
 | [],i,j=>by rw[pG,Hu];rfl
 | a::as,i,j=>by
  unfold pG
  cases h:i7 a new j with
  | none=>simp only;rw[lQ new as,IJ h]
  | some k=>
   simp only
   by_cases hc:lcs as (new.drop (k+1))+1=lcs (a::as) (new.drop j)
   ·rw[aax hc,aah,lQ new as];exact hc
   ·rw[aav hc,lQ new as,zR h hc]
inductive Good(old new:List Z):Nat->Nat->List (Nat×Nat)->Prop
 | nil (i j):Good old new i j []
 | cons {i j p q r} (h1:i<=p) (h2:j<=q) (a:Z) (e1:old[p]?=some a) (e2:new[q]?=some a)
  (h3:∀l m,i<=l->l<=p->j<=m->(l<p\/m<q)->∀b,old[l]?=some b->new[m]?=some b->¬r.length<=lcs (old.drop (l+1)) (new.drop (m+1)))
  (t:Good old new (p+1) (q+1) r):Good old new i j ((p,q)::r)
theorem Good.back{old new:List Z}{i j:Nat}{a:Z}{r:List (Nat×Nat)}(ha:old[i]?=some a)(hl:r.length=lcs (old.drop (i+1)) (new.drop j))(hn:∀m,j<=m->new[m]?=some a->lcs (old.drop (i+1)) (new.drop (m+1))+1≠r.length/\lcs (old.drop (i+1)) (new.drop (m+1))+1<=r.length)
  (h:Good old new (i+1) j r):Good old new i j r:=by
 cases h with
 | nil=>exact .nil _ _
 | @cons _ _ p q r h1 h2 b e1 e2 h3 t=>
  refine .cons (by omega) h2 b e1 e2 (λl m N5 FQ hm j3 c c1 c2 hle=>?_) t
  by_cases e:l=i
  ·subst e
   rw[ha] at c1
   cases c1
   have z:=hn m hm c2
   rw[aah] at z
   omega
  ·exact h3 l m (by omega) FQ hm j3 c c1 c2 hle
theorem qo{old new:List Z}:∀(rest:List Z)(i j:Nat),old.drop i=rest->Good old new i j (pG new i rest j)
 | [],i,j,_=>by rw[pG];exact .nil _ _
 | a::as,i,j,e=>by
  have ha:old[i]?=some a:=by
   have:(old.drop i)[0]?=some a:=by rw[e];rfl
   rwa [aco,Nat.add_zero] at this
  have e':old.drop (i+1)=as:=by
   have:=qm ha;rw[e] at this;exact(List.cons.inj this).2.symm
  have L:=lQ new as (i+1) j
  unfold pG
  cases h:i7 a new j with
  | none=>
   simp only
   refine Good.back ha (by rw[L,e']) (λm hm q=>absurd q (nQ h m hm)) (qo as (i+1) j e')
  | some k=>
   obtain⟨UR,hk,N4⟩:=kE h
   simp only
   by_cases hc:lcs as (new.drop (k+1))+1=lcs (a::as) (new.drop j)
   ·rw[aax hc]
    refine .cons (XU _) UR a ha hk (λl m N5 FQ hm j3 b c1 c2 _=>?_) (qo as (i+1) (k+1) e')
    have:l=i:=by omega
    subst this
    rw[ha] at c1
    cases c1
    exact N4 m hm (by omega) c2
   ·rw[aav hc]
    have S:=zR h hc
    refine Good.back ha (by rw[L,e']) (λm hm q=>?_) (qo as (i+1) j e')
    rw[L,e',<-S]
    have h1:=CK (as:=as) hm q
    refine⟨λz=>?_,h1⟩
    have hkm:k<=m:=by
     rcases Nat.lt_or_ge m k with z'|z'
     ·exact absurd q (N4 m hm z')
     ·exact z'
    have h2:lcs as (new.drop (m+1))<=lcs as (new.drop (k+1)):=zP (aaU _) (zQ (by omega))
    have h3:=CK (as:=as) UR hk
    omega
theorem BV(old new:List Z):Good old new 0 0 (kept old new):=qo old 0 0 rfl
theorem xW(old new:List Z):(kept old new).length=lcs old new:=lQ new old 0 0
noncomputable def pre(old new:List Z)(i k:Nat):Nat:=lcs (old.take i) (new.take k)
noncomputable def wV(old new:List Z)(i j:Nat):Nat:=lcs (old.drop i) (new.drop j)
theorem zc{old new:List Z}{i j:Nat}(h:old.length<=i\/new.length<=j):wV old new i j=0:=by
 unfold wV
 rcases h with h|h
 ·rw[List.drop_eq_nil_of_le h,Hu]
 ·rw[List.drop_eq_nil_of_le h,M7]
theorem M8{old new:List Z}{i j:Nat}{a b:Z}(ha:old[i]?=some a)(hb:new[j]?=some b) :
  wV old new i j=if b=a then wV old new (i+1) (j+1)+1 else max (wV old new (i+1) j) (wV old new i (j+1)):=by
 unfold wV
 rw[qm ha,qm hb,lcs,<-qm ha,<-qm hb]
end
end K01
namespace PM
open PySem
abbrev Nm:=Str×Nat
structure Ln where
 nm:Nm
 tx:Str
 up:Option Nm
 lo:Option Nm
 deriving DecidableEq
structure Pt where
 nm:Str
 file:Option Str
 ix:List Ln
 jt:List Nm
 other:Option Str
 deriving DecidableEq
noncomputable def nq:List Pt->List Str->List Pt
 | [],_=>[]
 | p::r,t=>if p.nm∈t then nq r t else p::nq r (match p.other with|some o=>o::t|none=>t)
noncomputable def live(ps:List Pt):List Pt:=(nq ps.reverse []).reverse
noncomputable def gm(ps:List Pt)(f:Str):List Ln:=(ps.filter λp=>p.file=some f).flatMap (·.ix)
noncomputable def gone(ps:List Pt):List Nm:=ps.flatMap (·.jt)
noncomputable def jj(ps:List Pt)(f:Str):List Ln:=(gm (live ps) f).filter λl=>l.nm∉gone (live ps)
theorem wW:∀(ps:List Pt)(t:List Str),(nq ps t).Sublist ps
 | [],_=>aaU _
 | p::r,t=>by
  unfold nq
  split
  ·exact(wW r t).cons p
  ·exact(wW r _).cons_cons p
theorem vb(ps:List Pt):(live ps).Sublist ps:=by
 have:=(wW ps.reverse []).reverse
 rwa [List.reverse_reverse] at this
theorem vc{ps qs:List Pt}(h:ps.Sublist qs)(f:Str):(gm ps f).Sublist (gm qs f):=by
 unfold gm
 have h:=h.filter (λp=>decide (p.file=some f))
 generalize ps.filter _=a at h
 generalize qs.filter _=b at h
 induction h with
 | slnil=>exact aaU _
 | cons x _ ih=>rw[aaV];exact ih.trans (abj _ _)
 | cons_cons x _ ih=>rw[aaV,aaV];exact(aaU _).append ih
theorem j6(ps:List Pt)(f:Str):(jj ps f).Sublist (gm ps f):=
 aa5.trans (vc (vb ps) f)
def Sa(ls:List Ln)(m n:Nm):Prop:=∃l∈ls,(l.nm=n/\l.up=some m)\/(l.nm=m/\l.lo=some n)
inductive Ah(ls:List Ln):Nm->Nm->Prop
 | one {m n}:Sa ls m n->Ah ls m n
 | M9 {m k n}:Ah ls m k->Sa ls k n->Ah ls m n
theorem Ah.trans{ls:List Ln}{m k n:Nm}(a:Ah ls m k)(b:Ah ls k n):Ah ls m n:=by
 induction b with
 | one h=>exact .M9 a h
 | M9 _ h ih=>exact .M9 ih h
theorem Sa.mono{l1 l2:List Ln}(h:∀l∈l1,l∈l2){m n:Nm}(a:Sa l1 m n):Sa l2 m n:=by
 obtain⟨l,hl,q⟩:=a
 exact⟨l,h l hl,q⟩
theorem Ah.mono{l1 l2:List Ln}(h:∀l∈l1,l∈l2){m n:Nm}(a:Ah l1 m n):Ah l2 m n:=by
 induction a with
 | one x=>exact .one (x.mono h)
 | M9 _ x ih=>exact .M9 ih (x.mono h)
theorem Ah.last{ls:List Ln}{m n:Nm}:Ah ls m n↔Sa ls m n\/∃k,Ah ls m k/\Sa ls k n:=by
 constructor
 ·intro h
  cases h with
  | one x=>exact .inl x
  | M9 a x=>exact .inr ⟨_,a,x⟩
 ·rintro(x|⟨k,a,x⟩)
  ·exact .one x
  ·exact .M9 a x
def Rk(ls:List Ln)(rk:Nm->Nat):Prop:=∀l∈ls,(∀m,l.up=some m->rk m<rk l.nm)/\(∀m,l.lo=some m->rk l.nm<rk m)
def KD(ls:List Ln):Prop:=∃rk,Rk ls rk
theorem Rk.sa{ls:List Ln}{rk:Nm->Nat}(r:Rk ls rk){m n:Nm}(h:Sa ls m n):rk m<rk n:=by
 obtain⟨l,hl,⟨rfl,e⟩|⟨rfl,e⟩⟩:=h
 ·exact(r l hl).1 m e
 ·exact(r l hl).2 n e
theorem Rk.ah{ls:List Ln}{rk:Nm->Nat}(r:Rk ls rk){m n:Nm}(h:Ah ls m n):rk m<rk n:=by
 induction h with
 | one x=>exact r.sa x
 | M9 _ x ih=>exact Nat.lt_trans ih (r.sa x)
def qp(ls:List Ln):Prop:=∀l∈ls,(∀m,l.up=some m->m∈ls.map (·.nm))/\(∀m,l.lo=some m->m∈ls.map (·.nm))
theorem qp.sa{ls:List Ln}(c:qp ls){m n:Nm}(h:Sa ls m n):m∈ls.map (·.nm)/\n∈ls.map (·.nm):=by
 obtain⟨l,hl,⟨rfl,e⟩|⟨rfl,e⟩⟩:=h
 ·exact⟨(c l hl).1 m e,aae hl⟩
 ·exact⟨aae hl,(c l hl).2 n e⟩
theorem qp.ah{ls:List Ln}(c:qp ls){m n:Nm}(h:Ah ls m n):m∈ls.map (·.nm)/\n∈ls.map (·.nm):=by
 induction h with
 | one x=>exact c.sa x
 | M9 _ x ih=>exact⟨ih.1,(c.sa x).2⟩
section
open Classical
variable(lt:Nm->Nm->Prop)
noncomputable def free(ls:List Ln)(l:Ln):Bool:=decide (∀o∈ls,¬lt o.nm l.nm)
noncomputable def q8:Nat->List Ln->List Ln
 | 0,_=>[]
 | n+1,ls=>match ls.find? (free lt ls) with
  | none=>[]
  | some l=>l::q8 n (ls.filter λo=>o.nm≠l.nm)
noncomputable def rowOf(ls:List Ln):List Ln:=q8 lt ls.length ls
def ltAt(row:List Ln)(i j:Nat):Prop:=∃a b,row[i]?=some a/\row[j]?=some b/\lt a.nm b.nm
noncomputable def jb(row:List Ln):List (Nat×Nat):=
 (List.range row.length).flatMap λi=>((List.range' (i+1) (row.length-(i+1))).filter λj=>decide (¬ltAt lt row i j)).map λj=>(i,j)
variable{lt}
theorem rL{rk:Nm->Nat}(hr:∀m n,lt m n->rk m<rk n):∀(ls:List Ln),ls≠[]->∃l,ls.find? (free lt ls)=some l:=by
 intro ls hn
 have least:∀(xs:List Ln),xs≠[]->∃l∈xs,∀o∈xs,rk l.nm<=rk o.nm:=by
  intro xs
  induction xs with
  | nil=>intro h;exact absurd rfl h
  | cons x r ih=>
   intro _
   by_cases h:r=[]
   ·subst h;exact⟨x,by simp,λo ho=>by simp at ho;rw[ho];exact XU _⟩
   ·obtain⟨l,hl,hm⟩:=ih h
    by_cases hx:rk x.nm<=rk l.nm
    ·refine⟨x,by simp,λo ho=>?_⟩
     rcases aag.mp ho with rfl|ho
     ·exact XU _
     ·exact aam hx (hm o ho)
    ·refine⟨l,aal _ hl,λo ho=>?_⟩
     rcases aag.mp ho with rfl|ho
     ·omega
     ·exact hm o ho
 obtain⟨l,hl,hm⟩:=least ls hn
 have hf:free lt ls l=true:=XZ λo ho j3=>by have:=hr _ _ j3;have:=hm o ho;omega
 cases e:ls.find? (free lt ls) with
 | some x=>exact⟨x,rfl⟩
 | none=>exact absurd hf (by have:=List.find?_eq_none.mp e l hl;simpa using this)
theorem l_{ls:List Ln}(nd:(ls.map (·.nm)).Nodup){l:Ln}(hl:l∈ls):(ls.filter λo=>o.nm≠l.nm).length+1=ls.length:=by
 induction ls with
 | nil=>cases hl
 | cons x r ih=>
  rw[aaK,aa8] at nd
  rcases aag.mp hl with rfl|hl
  ·have e:r.filter (λo=>decide (o.nm≠l.nm))=r:=List.filter_eq_self.mpr λo ho=>XZ λz=>nd.1 (z▸aae ho)
   rw[aai (by simp),e,aah]
  ·have hx:x.nm≠l.nm:=λz=>nd.1 (z▸aae hl)
   rw[YR (by simpa using hx),aah,aah,ih nd.2 hl]
theorem mS{ls:List Ln}(nd:(ls.map (·.nm)).Nodup)(p:Ln->Bool):((ls.filter p).map (·.nm)).Nodup:=(aa5.map _).nodup nd
theorem uq{rk:Nm->Nat}(hr:∀m n,lt m n->rk m<rk n):∀(n:Nat)(ls:List Ln),n=ls.length->(ls.map (·.nm)).Nodup->(q8 lt n ls).Perm ls
 | 0,ls,e,_=>by
  have:ls=[]:=aaQ.mp e.symm
  subst this;exact List.Perm.refl _
 | n+1,ls,e,nd=>by
  have hn:ls≠[]:=λz=>by subst z;cases e
  obtain⟨l,hf⟩:=rL hr ls hn
  have hl:l∈ls:=List.mem_of_find?_eq_some hf
  unfold q8
  rw[hf]
  have hlen:=l_ nd hl
  have ih:=uq hr n (ls.filter λo=>o.nm≠l.nm) (by omega) (mS nd _)
  refine(ih.cons l).trans ?_
  clear ih hf hlen e hn
  induction ls with
  | nil=>cases hl
  | cons x r ih=>
   rw[aaK,aa8] at nd
   rcases aag.mp hl with rfl|hl
   ·have e:r.filter (λo=>decide (o.nm≠l.nm))=r:=List.filter_eq_self.mpr λo ho=>XZ λz=>nd.1 (z▸aae ho)
    rw[aai (by simp),e]
   ·have hx:x.nm≠l.nm:=λz=>nd.1 (z▸aae hl)
    rw[YR (by simpa using hx)]
    exact(List.Perm.swap _ _ _).trans ((ih nd.2 hl).cons x)
theorem zS{rk:Nm->Nat}(hr:∀m n,lt m n->rk m<rk n){ls:List Ln}(nd:(ls.map (·.nm)).Nodup):(rowOf lt ls).Perm ls:=uq hr _ ls rfl nd
theorem vd{rk:Nm->Nat}(hr:∀m n,lt m n->rk m<rk n):∀(n:Nat)(ls:List Ln),n=ls.length->(ls.map (·.nm)).Nodup->(q8 lt n ls).Pairwise λa b=>¬lt b.nm a.nm
 | 0,ls,_,_=>List.Pairwise.nil
 | n+1,ls,e,nd=>by
  have hn:ls≠[]:=λz=>by subst z;cases e
  obtain⟨l,hf⟩:=rL hr ls hn
  have hl:l∈ls:=List.mem_of_find?_eq_some hf
  have hlen:=l_ nd hl
  unfold q8
  rw[hf]
  refine List.Pairwise.cons (λb hb=>?_) (vd hr n _ (by omega) (mS nd _))
  have hb:=(uq hr n (ls.filter λo=>o.nm≠l.nm) (by omega) (mS nd _)).subset hb
  have hp:=List.find?_some hf
  exact aaA hp b (aao.mp hb).1
theorem ve{rk:Nm->Nat}(hr:∀m n,lt m n->rk m<rk n){ls:List Ln}(nd:(ls.map (·.nm)).Nodup):(rowOf lt ls).Pairwise λa b=>¬lt b.nm a.nm:=vd hr _ ls rfl nd
end
noncomputable def EF(sf:Nm->List Nm)(S:List Nm)(x:Nm):List Nm:=(sf x).filter λy=>y∉S
inductive Run(sf:Nm->List Nm)(B:Nat):Nat->List Nm->List Nm->Prop
 | nil {S}:Run sf B 0 [] S
 | skip {n x st S}:x∈S->(x::st).length<=B->Run sf B n st S->Run sf B (n+1) (x::st) S
 | fin {n x st S}:x∉S->EF sf S x=[]->(x::st).length<=B->Run sf B n st (S++[x])->Run sf B (n+1) (x::st) S
 | push {n x st S}:x∉S->EF sf S x≠[]->(x::st).length<=B->Run sf B n ((EF sf S x).reverse++x::st) S->Run sf B (n+1) (x::st) S
theorem CL{sf:Nm->List Nm}{S:List Nm}{x:Nm}:EF sf S x=[]↔∀y∈sf x,y∈S:=by
 unfold EF
 rw[List.filter_eq_nil_iff]
 exact⟨λh y hy=>by simpa using h y hy,λh y hy=>by simpa using h y hy⟩
theorem M_{sf:Nm->List Nm}{B N:Nat}(cr:Nm->Nat)(hN:∀x,(sf x).length<=N)(hc:∀x y,y∈sf x->cr y<cr x):∀(k:Nat)(x:Nm),cr x<=k->∀(st S:List Nm),st.length+1+N*cr x<=B->
  (∀S',(∀y∈S,y∈S')->x∈S'->∃n,Run sf B n st S')->∃n,Run sf B n (x::st) S:=by
 intro k
 induction k with
 | zero=>
  intro x hx st S hB go
  by_cases hm:x∈S
  ·obtain⟨n,r⟩:=go S (λ_ h=>h) hm
   exact⟨n+1,.skip hm (by rw[aah];omega) r⟩
  ·have e:EF sf S x=[]:=CL.mpr λy hy=>by have:=hc x y hy;omega
   obtain⟨n,r⟩:=go (S++[x]) (λ_ h=>aaI _ h) (by simp)
   exact⟨n+1,.fin hm e (by rw[aah];omega) r⟩
 | succ k ih=>
  intro x hx st S hB go
  have hlen:(x::st).length<=B:=by rw[aah];omega
  by_cases hm:x∈S
  ·obtain⟨n,r⟩:=go S (λ_ h=>h) hm
   exact⟨n+1,.skip hm hlen r⟩
  ·by_cases e:EF sf S x=[]
   ·obtain⟨n,r⟩:=go (S++[x]) (λ_ h=>aaI _ h) (by simp)
    exact⟨n+1,.fin hm e hlen r⟩
   ·
    have many:∀(ms:List Nm)(S0:List Nm),(∀y∈ms,y∈sf x)->ms.length<=N->(∀S',(∀y∈S0,y∈S')->(∀y∈ms,y∈S')->∃n,Run sf B n (x::st) S')->∃n,Run sf B n (ms++x::st) S0:=by
     intro ms
     induction ms with
     | nil=>intro S0 _ _ h;exact h S0 (λ_ z=>z) (λy hy=>by cases hy)
     | cons m r ihm=>
      intro S0 hs hl h
      have Sn:=hc x m (hs m aaC)
      rw[aah] at hl
      refine ih m (by omega) (r++x::st) S0 ?_ λS1 h1 YG=>ihm S1 (λy hy=>hs y (aal _ hy)) (by omega) λS2 h2 h3=>h S2 (λy hy=>h2 y (h1 y hy)) λy hy=>?_
      ·rw[YN,aah]
       have:N*cr m+N<=N*cr x:=by rw[<-Nat.mul_succ];exact Nat.mul_le_mul_left N Sn
       omega
      ·rcases aag.mp hy with z|z
       ·rw[z];exact h2 m YG
       ·exact h3 y z
    have Bz:(EF sf S x).length<=N:=aam (aaX _ _) (hN x)
    have cont:∀S',(∀y∈S,y∈S')->(∀y∈(EF sf S x).reverse,y∈S')->∃n,Run sf B n (x::st) S':=λS' h1 h2=>by
     by_cases Mr:x∈S'
     ·obtain⟨n,r⟩:=go S' h1 Mr
      exact⟨n+1,.skip Mr hlen r⟩
     ·have e':EF sf S' x=[]:=CL.mpr λy hy=>by
       by_cases Wo:y∈S
       ·exact h1 y Wo
       ·exact h2 y (List.mem_reverse.mpr (aao.mpr ⟨hy,by simpa using Wo⟩))
      obtain⟨n,r⟩:=go (S'++[x]) (λy hy=>aaI _ (h1 y hy)) (by simp)
      exact⟨n+1,.fin Mr e' hlen r⟩
    obtain⟨n,r⟩:=many (EF sf S x).reverse S (λy hy=>(aao.mp (List.mem_reverse.mp hy)).1) (by rw[abE];exact Bz) cont
    exact⟨n+1,.push hm e hlen r⟩
noncomputable def R9(ls:List Ln)(rk:Nm->Nat)(n:Nm):Nat:=(ls.filter λl=>rk l.nm<rk n).length
theorem Qr(ls:List Ln)(rk:Nm->Nat)(n:Nm):R9 ls rk n<=ls.length:=aaX _ _
theorem Qs{ls:List Ln}{rk:Nm->Nat}{m n:Nm}(hm:m∈ls.map (·.nm))(h:rk m<rk n):R9 ls rk m<R9 ls rk n:=by
 unfold R9
 have mono:∀{a b:Ln->Bool} {xs:List Ln},(∀x∈xs,a x=true->b x=true)->(xs.filter a).length<=(xs.filter b).length:=by
  intro a b xs G3
  induction xs with
  | nil=>exact XU _
  | cons x r ih=>
   have ih:=ih λy hy=>G3 y (aal _ hy)
   by_cases ha:a x=true
   ·rw[YR ha,YR (G3 x aaC ha),aah,aah];omega
   ·rw[aai ha]
    by_cases hb:b x=true
    ·rw[YR hb,aah];omega
    ·rw[aai hb];exact ih
 obtain⟨l,hl,rfl⟩:=List.mem_map.mp hm
 obtain⟨a,b,rfl⟩:=List.append_of_mem hl
 rw[aaH,aaH,YN,YN]
 rw[aai (by simp),YR (by simpa using h),aah]
 have h1:=mono (a:=λx:Ln=>decide (rk x.nm<rk l.nm)) (b:=λx=>decide (rk x.nm<rk n)) (xs:=a) λx _ hx=>by simp at hx ⊢;omega
 have h2:=mono (a:=λx:Ln=>decide (rk x.nm<rk l.nm)) (b:=λx=>decide (rk x.nm<rk n)) (xs:=b) λx _ hx=>by simp at hx ⊢;omega
 omega
theorem len_sub{xs ys:List Nm}(nd:xs.Nodup)(h:∀x∈xs,x∈ys):xs.length<=ys.length:=by
 induction xs generalizing ys with
 | nil=>exact aaY _
 | cons a r ih=>
  rw[aa8] at nd
  obtain⟨p,q,rfl⟩:=List.append_of_mem (h a aaC)
  have:=ih (ys:=p++q) nd.2 λz hz=>by
   have:=h z (aal _ hz)
   rcases aak.mp this with w|w
   ·exact aaI _ w
   ·rcases aag.mp w with w|w
    ·exact absurd (w▸hz) nd.1
    ·exact aaW _ w
  rw[YN] at this
  rw[aah,YN,aah]
  omega
theorem KG{ls:List Ln}(cl:qp ls)(tp:KD ls){sf:Nm->List Nm}(hs:∀n,(sf n).Nodup/\∀m,m∈sf n↔Sa ls m n)(x:Nm)(S:List Nm):∃n,Run sf (1+ls.length*ls.length) n [x] S:=by
 obtain⟨rk,hr⟩:=tp
 have YM:∀n,(sf n).length<=ls.length:=λn=>by
  have:=len_sub (ys:=ls.map (·.nm)) (hs n).1 λy hy=>(cl.sa (((hs n).2 y).mp hy)).1
  rw[O4] at this
  exact this
 refine M_ (N:=ls.length) (R9 ls rk) YM (λx y hy=>?_) _ x (XU _) [] S ?_ λS' _ _=>⟨0,.nil⟩
 ·have h:=((hs x).2 y).mp hy
  exact Qs (cl.sa h).1 (hr.sa h)
 ·have:=Nat.mul_le_mul_left ls.length (Qr ls rk x)
  show 0+1+ls.length*R9 ls rk x<=1+ls.length*ls.length
  omega
def EG(n m:Nat)(qs:List (Nat×Nat)):Prop:=qs.Pairwise (λa b=>a.1<b.1/\a.2<b.2)/\∀q∈qs,q.1<n/\q.2<m
theorem IK{Z:Type}[DecidableEq Z]{old new:List Z}{i j:Nat}{qs:List (Nat×Nat)}(g:K01.Good old new i j qs):EG old.length new.length qs/\∀q∈qs,i<=q.1/\j<=q.2:=by
 induction g with
 | nil=>exact⟨⟨List.Pairwise.nil,λq hq=>by cases hq⟩,λq hq=>by cases hq⟩
 | @cons i j p q r h1 h2 a e1 e2 h3 t ih=>
  obtain⟨⟨h4,h5⟩,h6⟩:=ih
  refine⟨⟨List.Pairwise.cons (λb hb=>?_) h4,λb hb=>?_⟩,λb hb=>?_⟩
  ·have:=h6 b hb
   exact⟨by show p<b.1;omega,by show q<b.2;omega⟩
  ·rcases aag.mp hb with rfl|hb
   ·exact⟨(List.getElem?_eq_some_iff.mp e1).1,(List.getElem?_eq_some_iff.mp e2).1⟩
   ·exact h5 b hb
  ·rcases aag.mp hb with rfl|hb
   ·exact⟨h1,h2⟩
   ·have:=h6 b hb
    omega
theorem pH{Z:Type}[DecidableEq Z](old new:List Z):EG old.length new.length (K01.kept old new):=(IK (K01.BV old new)).1
noncomputable def l5(row:List Ln):List (Nat×Nat)->Nat->Option Nm
 | [],_=>none
 | q::r,s=>if q.2=s then(row[q.1]?).map (·.nm) else l5 row r s
def qr(row:List Ln)(qs:List (Nat×Nat)):List Nm:=qs.filterMap λq=>(row[q.1]?).map (·.nm)
theorem CM{row:List Ln}{qs:List (Nat×Nat)}{s:Nat}{m:Nm}(h:l5 row qs s=some m):∃q∈qs,q.2=s/\∃l,row[q.1]?=some l/\l.nm=m:=by
 induction qs with
 | nil=>cases h
 | cons q r ih=>
  unfold l5 at h
  by_cases e:q.2=s
  ·rw[aax e] at h
   obtain⟨l,hl,e2⟩:=Option.map_eq_some_iff.mp h
   exact⟨q,aaC,e,l,hl,e2⟩
  ·rw[aav e] at h
   obtain⟨q',hq,z⟩:=ih h
   exact⟨q',aal _ hq,z⟩
theorem CN{row:List Ln}{m:Nat}:∀{qs:List (Nat×Nat)},EG row.length m qs->∀s,(l5 row qs s).isSome=decide (s∈qs.map (·.2))
 | [],_,s=>rfl
 | q::r,h,s=>by
  have hr:EG row.length m r:=⟨(List.pairwise_cons.mp h.1).2,λx hx=>h.2 x (aal _ hx)⟩
  unfold l5
  by_cases e:q.2=s
  ·rw[aax e,UQ (h.2 q aaC).1,XZ (by rw[aaK,e];exact aaC)];rfl
  ·rw[aav e,CN hr s,aaK]
   by_cases z:s∈r.map (·.2)
   ·rw[XZ z,XZ (aal _ z)]
   ·rw[aap z,aap (λw=>(aag.mp w).elim (λw=>e w.symm) z)]
theorem Na{row:List Ln}{qs:List (Nat×Nat)}{m:Nat}{rk:Nm->Nat}(h:EG row.length m qs)(hr:row.Pairwise λa b=>rk a.nm<rk b.nm){s t:Nat}{a b:Nm}(hs:l5 row qs s=some a)(ht:l5 row qs t=some b)(uG:s<t):rk a<rk b:=by
 obtain⟨q1,h1,e1,l1,r1,rfl⟩:=CM hs
 obtain⟨q2,h2,e2,l2,r2,rfl⟩:=CM ht
 have j3:q1.1<q2.1:=by
  obtain⟨i,hi,ei⟩:=List.mem_iff_getElem.mp h1
  obtain⟨j,hj,ej⟩:=List.mem_iff_getElem.mp h2
  have hp:=aa7.mp h.1
  rcases Nat.lt_trichotomy i j with z|z|z
  ·have:=hp i j hi hj z;rw[ei,ej] at this;exact this.1
  ·subst z;rw[ei] at ej;subst ej;omega
  ·have:=hp j i hj hi z;rw[ei,ej] at this;omega
 obtain⟨g1,w1⟩:=List.getElem?_eq_some_iff.mp r1
 obtain⟨g2,w2⟩:=List.getElem?_eq_some_iff.mp r2
 have:=aa7.mp hr _ _ g1 g2 j3
 rw[w1,w2] at this
 exact this
noncomputable def Hv(kn:Nat->Option Nm):Nat->Nat->Option Nm
 | 0,_=>none
 | k+1,i=>match kn (i+1) with|some m=>some m|none=>Hv kn k (i+1)
noncomputable def qt(p:Str)(kn:Nat->Option Nm):Nat->Nat->Option Nm->List Str->List Ln
 | _,_,_,[]=>[]
 | i,j,u,t::r=>match kn i with
  | some m=>qt p kn (i+1) j (some m) r
  | none=>⟨(p,j),t,u,Hv kn r.length i⟩::qt p kn (i+1) (j+1) (some (p,j)) r
noncomputable def kj(p:Str)(texts:List Str)(kn:Nat->Option Nm):List Ln:=qt p kn 0 0 none texts
noncomputable def jW(p f:Str)(row:List Ln)(texts:List Str):Pt:=
 ⟨p,some f,kj p texts (l5 row (K01.kept (row.map (·.tx)) texts)),(row.filter λl=>l.nm∉qr row (K01.kept (row.map (·.tx)) texts)).map (·.nm),none⟩
theorem vg(p:Str)(kn:Nat->Option Nm):∀(r:List Str)(i j:Nat)(u:Option Nm),(qt p kn i j u r).map (·.nm)=(List.range' j (qt p kn i j u r).length).map λk=>(p,k)
 | [],_,_,_=>rfl
 | t::r,i,j,u=>by
  unfold qt
  cases h:kn i with
  | some m=>exact vg p kn r (i+1) j (some m)
  | none=>
   simp only [aaK,aah,acD]
   rw[vg p kn r (i+1) (j+1) (some (p,j))]
theorem zT(p:Str)(kn:Nat->Option Nm):∀(r:List Str)(i j:Nat)(u:Option Nm),(qt p kn i j u r).length=((List.range' i r.length).filter λk=>(kn k).isNone).length
 | [],_,_,_=>rfl
 | t::r,i,j,u=>by
  unfold qt
  rw[aah,acD]
  cases h:kn i with
  | some m=>rw[aai (by simp[h])];exact zT p kn r (i+1) j (some m)
  | none=>rw[YR (by simp[h]),aah];simp only [aah];rw[zT p kn r (i+1) (j+1) (some (p,j))]
theorem CO{kn:Nat->Option Nm}{m:Nm}:∀{k i:Nat},Hv kn k i=some m->∃t,i<t/\t<=i+k/\kn t=some m
 | 0,_,h=>by cases h
 | k+1,i,h=>by
  unfold Hv at h
  cases e:kn (i+1) with
  | some m'=>
   rw[e] at h
   cases h
   exact⟨i+1,by omega,by omega,e⟩
  | none=>
   rw[e] at h
   obtain⟨t,h1,h2,h3⟩:=CO (k:=k) (i:=i+1) h
   exact⟨t,by omega,by omega,h3⟩
theorem zd{p:Str}{kn:Nat->Option Nm}:∀(r:List Str)(i j:Nat)(u:Option Nm),∀l∈qt p kn i j u r,∀m,l.up=some m\/l.lo=some m->(u=some m\/∃t,kn t=some m)\/m∈(qt p kn i j u r).map (·.nm)
 | [],_,_,_,l,hl,_,_=>by cases hl
 | t::r,i,j,u,l,hl,m,hm=>by
  unfold qt at hl ⊢
  cases h:kn i with
  | some m'=>
   rw[h] at hl
   rcases zd r (i+1) j (some m') l hl m hm with(z|z)|z
   ·exact .inl (.inr ⟨i,by rw[h];exact z⟩)
   ·exact .inl (.inr z)
   ·exact .inr z
  | none=>
   rw[h] at hl
   rcases aag.mp hl with rfl|hl
   ·rcases hm with hm|hm
    ·exact .inl (.inl hm)
    ·obtain⟨t,_,_,e⟩:=CO hm
     exact .inl (.inr ⟨t,e⟩)
   ·rcases zd r (i+1) (j+1) (some (p,j)) l hl m hm with(z|z)|z
    ·cases z
     exact .inr (by rw[aaK];exact aaC)
    ·exact .inl (.inr z)
    ·exact .inr (aal _ z)
noncomputable def KH(rk:Nm->Nat)(kn:Nat->Option Nm):Nat->Nat
 | 0=>0
 | i+1=>match kn i with|some m=>rk m+1|none=>KH rk kn i
noncomputable def X0(kn:Nat->Option Nm)(n j:Nat):Nat:=(((List.range n).filter λk=>(kn k).isNone)[j]?).getD 0
noncomputable def Gx(rk:Nm->Nat)(kn:Nat->Option Nm)(p:Str)(n:Nat)(x:Nm):Nat:=if x.1=p then KH rk kn (X0 kn n x.2)*(n+1)+x.2+1 else(rk x+1)*(n+1)
theorem KI{rk:Nm->Nat}{kn:Nat->Option Nm}(hk:∀s t a b,kn s=some a->kn t=some b->s<t->rk a<rk b):∀i t b,kn t=some b->i<=t->KH rk kn i<=rk b
 | 0,_,_,_,_=>aaY _
 | i+1,t,b,h,hi=>by
  unfold KH
  cases e:kn i with
  | some m=>exact hk i t m b e h (by omega)
  | none=>exact KI hk i t b h (by omega)
theorem Qt{kn:Nat->Option Nm}{n i:Nat}(hi:i<n)(h:kn i=none):X0 kn n ((List.range i).filter λk=>(kn k).isNone).length=i:=by
 unfold X0
 have e:List.range n=List.range i++i::List.range' (i+1) (n-(i+1)):=by
  have h1:List.range n=List.range i++(List.range' i (n-i)):=by
   have:=List.range'_append_1 (s:=0) (m:=i) (n:=n-i)
   rw[Nat.zero_add,show i+(n-i)=n by omega] at this
   rw[List.range_eq_range',List.range_eq_range',this]
  rw[h1,show n-i=(n-(i+1))+1 by omega,acD]
 rw[e,aaH,YR (by simp[h]),abk (XU _),Nat.sub_self]
 rfl
theorem CP{rk:Nm->Nat}{kn:Nat->Option Nm}{p:Str}{n:Nat}(hk:∀s t a b,kn s=some a->kn t=some b->s<t->rk a<rk b)(hp:∀s a,kn s=some a->a.1≠p) :
  ∀(r:List Str)(i j:Nat)(u:Option Nm),i+r.length=n->j=((List.range i).filter λk=>(kn k).isNone).length->(∀m,u=some m->Gx rk kn p n m<=KH rk kn i*(n+1)+j)->
   Rk (qt p kn i j u r) (Gx rk kn p n)
 | [],_,_,_,_,_,_=>λl hl=>by cases hl
 | t::r,i,j,u,hn,hj,hu=>by
  rw[aah] at hn
  have G2:i<n:=by omega
  have Jt:j<=i:=by rw[hj];exact aam (aaX _ _) (by rw[abQ];exact XU _)
  have e1:(List.range (i+1)).filter (λk=>(kn k).isNone)=(List.range i).filter (λk=>(kn k).isNone)++if(kn i).isNone then[i] else[]:=by
   rw[acx,aaH]
   congr 1
   cases h:(kn i).isNone<;>simp[h]
  unfold qt
  cases h:kn i with
  | some m=>
   refine CP hk hp r (i+1) j (some m) (by omega) (by rw[e1,h];simpa using hj) λm' e=>?_
   cases e
   unfold Gx
   rw[aav (hp i m h),KH.eq_2,h]
   show(rk m+1)*(n+1)<=(rk m+1)*(n+1)+j
   omega
  | none=>
   have LS:Gx rk kn p n (p,j)=KH rk kn i*(n+1)+j+1:=by
    unfold Gx
    rw[aax rfl,hj,Qt G2 h]
   have hb:KH rk kn (i+1)=KH rk kn i:=by rw[KH.eq_2,h]
   intro l hl
   rcases aag.mp hl with rfl|hl
   ·refine⟨λm hm=>?_,λm hm=>?_⟩
    ·have:=hu m hm
     show Gx rk kn p n m<Gx rk kn p n (p,j)
     omega
    ·obtain⟨t',ht1,YO,e⟩:=CO hm
     show Gx rk kn p n (p,j)<Gx rk kn p n m
     have hle:=KI hk i t' m e (by omega)
     rw[LS]
     unfold Gx
     rw[aav (hp t' m e)]
     have h1:KH rk kn i*(n+1)<=rk m*(n+1):=Nat.mul_le_mul_right _ hle
     have h2:(rk m+1)*(n+1)=rk m*(n+1)+(n+1):=Nat.succ_mul _ _
     omega
   ·refine CP hk hp r (i+1) (j+1) (some (p,j)) (by omega) (by rw[e1,h,hj];simp) (λm' e=>?_) l hl
    cases e
    rw[LS,hb]
    omega
theorem KJ{rk:Nm->Nat}{kn:Nat->Option Nm}{p:Str}(hk:∀s t a b,kn s=some a->kn t=some b->s<t->rk a<rk b)(hp:∀s a,kn s=some a->a.1≠p)(texts:List Str):Rk (kj p texts kn) (Gx rk kn p texts.length):=
 CP hk hp texts 0 0 none (by omega) rfl λm e=>by cases e
theorem KL{rk:Nm->Nat}{kn:Nat->Option Nm}{p:Str}{n:Nat}{ls:List Ln}(r:Rk ls rk)(h:∀l∈ls,l.nm.1≠p/\∀m,l.up=some m\/l.lo=some m->m.1≠p):Rk ls (Gx rk kn p n):=by
 intro l hl
 obtain⟨h1,h2⟩:=h l hl
 have e:∀x:Nm,x.1≠p->Gx rk kn p n x=(rk x+1)*(n+1):=λx hx=>by unfold Gx;rw[aav hx]
 refine⟨λm hm=>?_,λm hm=>?_⟩
 ·rw[e _ h1,e _ (h2 m (.inl hm))]
  exact Nat.mul_lt_mul_of_pos_right (Nat.succ_lt_succ ((r l hl).1 m hm)) (Nat.succ_pos _)
 ·rw[e _ h1,e _ (h2 m (.inr hm))]
  exact Nat.mul_lt_mul_of_pos_right (Nat.succ_lt_succ ((r l hl).2 m hm)) (Nat.succ_pos _)
theorem EH{xs ys:List Nat}(nd:xs.Nodup)(h:∀x∈xs,x∈ys):xs.length<=ys.length:=by
 have:=len_sub (xs:=xs.map λk=>((Str.empty,k):Nm)) (ys:=ys.map λk=>(Str.empty,k)) (ab3.mpr (nd.imp λh z=>h (abd Prod.snd z))) λx hx=>by
  obtain⟨k,hk,rfl⟩:=List.mem_map.mp hx
  exact aae (h k hk)
 rwa [O4,O4] at this
theorem zU{Z:Type}(p:Z->Bool):∀xs:List Z,(xs.filter p).length+(xs.filter λx=>!p x).length=xs.length
 | []=>rfl
 | x::r=>by
  have:=zU p r
  cases h:p x<;>simp[h]<;>omega
theorem Hw{row:List Ln}{texts:List Str}{qs:List (Nat×Nat)}(h:EG row.length texts.length qs)(p:Str):(kj p texts (l5 row qs)).length+qs.length=texts.length:=by
 unfold kj
 rw[zT,<-List.range_eq_range']
 have h2:=zU (λk=>(l5 row qs k).isNone) (List.range texts.length)
 rw[abQ] at h2
 have h3:((List.range texts.length).filter λx=>!(l5 row qs x).isNone).length=qs.length:=by
  have nd:(qs.map (·.2)).Nodup:=ab3.mpr (h.1.imp λz e=>by omega)
  refine Nat.le_antisymm ?_ ?_
  ·have:=EH (xs:=(List.range texts.length).filter λx=>!(l5 row qs x).isNone) (ys:=qs.map (·.2)) (List.nodup_range.sublist aa5) λx hx=>by
    have h4:=(aao.mp hx).2
    have h5:(l5 row qs x).isSome=true:=by cases e:l5 row qs x<;>simp[e] at h4 ⊢
    rw[CN h] at h5
    exact aaA h5
   rwa [O4] at this
  ·have:=EH (xs:=qs.map (·.2)) (ys:=(List.range texts.length).filter λx=>!(l5 row qs x).isNone) nd λx hx=>by
    refine aao.mpr ⟨abr.mpr ?_,?_⟩
    ·obtain⟨q,hq,rfl⟩:=List.mem_map.mp hx
     exact(h.2 q hq).2
    ·have h5:=CN h x
     rw[XZ hx] at h5
     cases e:l5 row qs x<;>simp[e] at h5 ⊢
   rwa [O4] at this
 omega
structure Dk where
 made:List Pt
 iE:Str->List Str
 stores:List Str
 held:Str->List Str
noncomputable def named(p:Pt):List Nm:=p.jt++p.ix.flatMap λl=>l.up.toList++l.lo.toList
noncomputable def ik(p:Pt):List Str:=((named p).filter λn=>n.1≠p.nm).map (·.1)++p.other.toList
noncomputable def qw(nd:Str->List Str)(p:Pt):List Str:=(ik p).flatMap λy=>y::nd y
namespace Dk
noncomputable def names(D:Dk):List Str:=D.made.map (·.nm)
noncomputable def keep(D:Dk)(s:Str)(p:Pt):Dk:=⟨D.made++[p],λx=>if x=p.nm then qw D.iE p else D.iE x,D.stores,λt=>if t=s then D.held s++[p.nm] else D.held t⟩
noncomputable def begin(D:Dk)(s:Str):Dk:=⟨D.made,D.iE,D.stores++[s],λt=>if t=s then[] else D.held t⟩
noncomputable def jQ(D:Dk)(s:Str):List Pt:=D.made.filter λp=>p.nm∈D.held s
noncomputable def has(D:Dk)(s:Str):List Str:=D.names.filter λx=>x∈D.held s
noncomputable def nR(D:Dk)(x:Str):List Str:=D.names.filter λy=>y∈D.iE x
noncomputable def oh(D:Dk)(s x:Str):List Str:=(D.nR x++[x]).filter λy=>y∉D.held s
noncomputable def take(D:Dk)(s x:Str):Dk:=⟨D.made,D.iE,D.stores,λt=>if t=s then D.held s++D.oh s x else D.held t⟩
noncomputable def drop(D:Dk)(s x:Str):Dk:=⟨D.made,D.iE,D.stores,λt=>if t=s then(D.held s).filter (λy=>y≠x) else D.held t⟩
noncomputable def row(D:Dk)(s f:Str):List Ln:=rowOf (Ah (gm (D.jQ s) f)) (jj (D.jQ s) f)
noncomputable def jR(D:Dk)(s f:Str):List (Nat×Nat):=jb (Ah (gm (D.jQ s) f)) (D.row s f)
theorem qx(D:Dk)(s:Str):D.has s=(D.jQ s).map (·.nm):=by
 unfold has jQ names
 rw[List.filter_map];rfl
end Dk
structure Inv(D:Dk):Prop where
 nd:D.names.Nodup
 DZ:∀p∈D.made,p.ix.map (·.nm)=(List.range p.ix.length).map λj=>(p.nm,j)
 refs:∀p∈D.made,∀l∈p.ix,∀m,l.up=some m\/l.lo=some m->∃q∈D.made,q.file=p.file/\m∈q.ix.map (·.nm)/\(q.nm=p.nm\/q.nm∈D.iE p.nm)
 rank:∃rk,∀p∈D.made,Rk p.ix rk
 before:∀i p,D.made[i]?=some p->∀x∈D.iE p.nm,x∈(D.made.take i).map (·.nm)
 trans:∀x∈D.names,∀y∈D.iE x,∀z∈D.iE y,z∈D.iE x
 stN:D.stores.Nodup
 lD:∀s∈D.stores,∀x∈D.held s,x∈D.names/\∀y∈D.iE x,y∈D.held s
 vj:∀s∈D.stores,(D.held s).Nodup
 KN:∀p∈D.made,∀n∈p.jt,n.1≠p.nm
 need:∀p∈D.made,∀y,y∈D.iE p.nm↔∃z∈ik p,y=z\/y∈D.iE z
theorem me{p:Pt}(h:p.ix.map (·.nm)=(List.range p.ix.length).map λj=>(p.nm,j)){m:Nm}(hm:m∈p.ix.map (·.nm)):m.1=p.nm:=by
 rw[h] at hm
 obtain⟨j,_,rfl⟩:=List.mem_map.mp hm
 rfl
theorem Nb{ps:List Pt}(nd:(ps.map (·.nm)).Nodup){p q:Pt}(hp:p∈ps)(hq:q∈ps)(e:p.nm=q.nm):p=q:=by
 induction ps with
 | nil=>cases hp
 | cons x r ih=>
  rw[aaK,aa8] at nd
  rcases aag.mp hp with h1|h1
  ·rcases aag.mp hq with h2|h2
   ·rw[h1,h2]
   ·exact absurd (by rw[<-h1,e];exact aae h2) nd.1
  ·rcases aag.mp hq with h2|h2
   ·exact absurd (by rw[<-h2,<-e];exact aae h1) nd.1
   ·exact ih nd.2 h1 h2
theorem Gy{ps:List Pt}(nd:(ps.map (·.nm)).Nodup)(h:∀p∈ps,p.ix.map (·.nm)=(List.range p.ix.length).map λj=>(p.nm,j)):((ps.flatMap (·.ix)).map (·.nm)).Nodup:=by
 induction ps with
 | nil=>exact abt
 | cons x r ih=>
  rw[aaK,aa8] at nd
  rw[aaV,aaG,abh]
  refine⟨?_,ih nd.2 λp hp=>h p (aal _ hp),λa ha b hb e=>?_⟩
  ·rw[h x aaC]
   exact ab3.mpr (List.nodup_range.imp λz e=>z (abd Prod.snd e))
  ·have e1:=me (h x aaC) ha
   obtain⟨l,hl,rfl⟩:=List.mem_map.mp hb
   obtain⟨q,hq,hlq⟩:=abi.mp hl
   have e2:=me (h q (aal _ hq)) (aae hlq)
   exact nd.1 (by rw[<-e1,e,e2];exact aae hq)
theorem j7{ps:List Pt}{f:Str}{l:Ln}:l∈gm ps f↔∃p∈ps,p.file=some f/\l∈p.ix:=by
 unfold gm
 rw[abi]
 constructor
 ·rintro⟨p,hp,hl⟩
  obtain⟨h1,h2⟩:=aao.mp hp
  exact⟨p,h1,aaA h2,hl⟩
 ·rintro⟨p,h1,h2,hl⟩
  exact⟨p,aao.mpr ⟨h1,XZ h2⟩,hl⟩
theorem vk(ps:List Pt)(f:Str):(gm ps f).Sublist (ps.flatMap (·.ix)):=by
 unfold gm
 have h:=aa5 (p:=λp:Pt=>decide (p.file=some f)) (l:=ps)
 generalize ps.filter _=qs at h
 induction h with
 | slnil=>exact aaU _
 | cons x _ ih=>rw[aaV];exact ih.trans (abj _ _)
 | cons_cons x _ ih=>rw[aaV,aaV];exact(aaU _).append ih
namespace Inv
variable{D:Dk}
theorem lh{s:Str}{p:Pt}:p∈D.jQ s↔p∈D.made/\p.nm∈D.held s:=by
 unfold Dk.jQ
 rw[aao,aaS]
theorem ze(s:Str):(D.jQ s).Sublist D.made:=aa5
theorem nodup(I:Inv D)(s f:Str):((gm (D.jQ s) f).map (·.nm)).Nodup:=
 ((vk _ f).map _).nodup (Gy (((ze s).map _).nodup I.nd) λp hp=>I.DZ p (ze s |>.subset hp))
theorem wX(I:Inv D)(s f:Str):((jj (D.jQ s) f).map (·.nm)).Nodup:=((j6 _ f).map _).nodup (I.nodup s f)
theorem closed(I:Inv D){s:Str}(hs:s∈D.stores)(f:Str):qp (gm (D.jQ s) f):=by
 have key:∀l∈gm (D.jQ s) f,∀m,l.up=some m\/l.lo=some m->m∈(gm (D.jQ s) f).map (·.nm):=λl hl m hm=>by
  obtain⟨p,hp,hf,hl⟩:=j7.mp hl
  obtain⟨hp,hh⟩:=lh.mp hp
  obtain⟨q,hq,e,YQ,hn⟩:=I.refs p hp l hl m hm
  obtain⟨l',yK,rfl⟩:=List.mem_map.mp YQ
  refine aae (j7.mpr ⟨q,lh.mpr ⟨hq,?_⟩,by rw[e];exact hf,yK⟩)
  rcases hn with hn|hn
  ·rw[hn];exact hh
  ·exact(I.lD s hs _ hh).2 _ hn
 exact λl hl=>⟨λm hm=>key l hl m (.inl hm),λm hm=>key l hl m (.inr hm)⟩
theorem Nc(I:Inv D)(s f:Str):KD (gm (D.jQ s) f):=by
 obtain⟨rk,h⟩:=I.rank
 refine⟨rk,λl hl=>?_⟩
 obtain⟨p,hp,_,hl⟩:=j7.mp hl
 exact h p (lh.mp hp).1 l hl
theorem kF(I:Inv D)(s f:Str):(D.row s f).Perm (jj (D.jQ s) f):=by
 obtain⟨rk,r⟩:=I.Nc s f
 exact zS (rk:=rk) (λm n z=>r.ah z) (I.wX s f)
theorem tj(I:Inv D){s f:Str}{l:Ln}(h:l∈D.row s f):∃p∈D.jQ s,p.file=some f/\l∈p.ix:=
 j7.mp ((j6 _ f).subset ((I.kF s f).subset h))
theorem vp(I:Inv D)(s f:Str):(D.row s f).length<=(D.made.flatMap (·.ix)).length:=by
 rw[(I.kF s f).length_eq]
 refine aam (j6 _ f).length_le (aam (vk _ f).length_le ?_)
 have h:=ze (D:=D) s
 generalize D.jQ s=qs at h
 generalize D.made=ms at h
 clear I
 induction h with
 | slnil=>exact XU _
 | cons x _ ih=>rw[aaV,YN];omega
 | cons_cons x _ ih=>rw[aaV,aaV,YN,YN];omega
open Classical in
theorem chain{lt:Nm->Nm->Prop}{row:List Ln}(hq:jb lt row=[]):row.Pairwise λa b=>lt a.nm b.nm:=by
 rw[aa7]
 intro i j hi hj Fw
 by_cases c:ltAt lt row i j
 ·obtain⟨a,b,ha,hb,z⟩:=c
  rw[UQ hi] at ha
  rw[UQ hj] at hb
  cases ha;cases hb
  exact z
 ·exfalso
  have:(i,j)∈jb lt row:=by
   unfold jb
   refine abi.mpr ⟨i,abr.mpr hi,List.mem_map.mpr ⟨j,aao.mpr ⟨List.mem_range'.mpr ⟨j-(i+1),by omega,by omega⟩,XZ c⟩,rfl⟩⟩
  rw[hq] at this
  cases this
theorem keep(I:Inv D){s:Str}{p:Pt}(hs:s∈D.stores)(fresh:p.nm∉D.names)(DZ:p.ix.map (·.nm)=(List.range p.ix.length).map λj=>(p.nm,j))
  (refs:∀l∈p.ix,∀m,l.up=some m\/l.lo=some m->m∈p.ix.map (·.nm)\/∃q∈D.jQ s,q.file=p.file/\m∈q.ix.map (·.nm))
  (jt:∀m∈p.jt,∃q∈D.jQ s,m∈q.ix.map (·.nm)) (other:∀o,p.other=some o->o∈D.held s)
  (rank:∃rk,(∀q∈D.made,Rk q.ix rk)/\Rk p.ix rk):Inv (D.keep s p):=by
 have oa:∀x∈D.names,x≠p.nm:=λx hx e=>fresh (e▸hx)
 have Rr:∀q∈D.made,q.nm∈D.names:=λq hq=>aae hq
 have LU:∀x,x≠p.nm->(D.keep s p).iE x=D.iE x:=λx hx=>aav hx
 have US:(D.keep s p).iE p.nm=qw D.iE p:=aax rfl
 have Wz:∀x∈ik p,x∈D.held s:=λx hx=>by
  unfold ik at hx
  rcases aak.mp hx with hx|hx
  ·obtain⟨m,hm,rfl⟩:=List.mem_map.mp hx
   obtain⟨hm,hn⟩:=aao.mp hm
   have hn:m.1≠p.nm:=aaA hn
   have fin:(∃q∈D.jQ s,m∈q.ix.map (·.nm))->m.1∈D.held s:=λ⟨q,hq,YQ⟩=>by
    obtain⟨h1,h2⟩:=lh.mp hq
    rw[me (I.DZ q h1) YQ];exact h2
   rcases aak.mp hm with hm|hm
   ·exact fin (jt m hm)
   ·obtain⟨l,hl,hm⟩:=abi.mp hm
    have Mr:l.up=some m\/l.lo=some m:=by
     rcases aak.mp hm with hm|hm
     ·exact .inl (by simpa using hm)
     ·exact .inr (by simpa using hm)
    rcases refs l hl m Mr with z|⟨q,hq,_,z⟩
    ·exact absurd (me DZ z) hn
    ·exact fin ⟨q,hq,z⟩
  ·exact other x (by simpa using hx)
 have nh:∀x∈qw D.iE p,x∈D.held s:=λx hx=>by
  obtain⟨y,hy,hx⟩:=abi.mp hx
  rcases aag.mp hx with rfl|hx
  ·exact Wz _ hy
  ·exact(I.lD s hs y (Wz y hy)).2 x hx
 have nn:∀x∈qw D.iE p,x∈D.names:=λx hx=>(I.lD s hs x (nh x hx)).1
 have O3:∀x∈D.names,∀y∈D.iE x,y∈D.names:=λx hx y hy=>by
  obtain⟨q,hq,rfl⟩:=List.mem_map.mp hx
  obtain⟨i,hi⟩:=aaT.mp hq
  have:=I.before i q hi y hy
  exact(acy i D.made).map _ |>.subset this
 refine⟨?_,λq hq=>?_,λq hq l hl m hm=>?_,?_,λi q hq x hx=>?_,λx hx y hy z hz=>?_,I.stN,λt ht x hx=>?_,λt ht=>?_,λq hq n hn=>?_,λq hq y=>?_⟩
 ·show((D.made++[p]).map (·.nm)).Nodup
  rw[aaG,abh]
  exact⟨I.nd,by simp,λa ha b hb e=>fresh (by simp at hb;rw[<-hb,<-e];exact ha)⟩
 ·rcases aak.mp hq with hq|hq
  ·exact I.DZ q hq
  ·rw[XS.mp hq];exact DZ
 ·rcases aak.mp hq with hq|hq
  ·obtain⟨q',h1,h2,h3,h4⟩:=I.refs q hq l hl m hm
   refine⟨q',aaI _ h1,h2,h3,h4.imp id λz=>?_⟩
   rw[LU _ (oa _ (Rr q hq))];exact z
  ·rw[XS.mp hq] at hl ⊢
   rcases refs l hl m hm with z|⟨q',h1,h2,h3⟩
   ·exact⟨p,by show p∈D.made++[p];simp,rfl,z,.inl rfl⟩
   ·obtain⟨h4,h5⟩:=lh.mp h1
    refine⟨q',aaI _ h4,h2,h3,.inr ?_⟩
    rw[US]
    have e:=me (I.DZ q' h4) h3
    refine abi.mpr ⟨q'.nm,?_,aaC⟩
    unfold ik
    refine aaI _ (List.mem_map.mpr ⟨m,aao.mpr ⟨?_,XZ ?_⟩,e⟩)
    ·unfold named
     refine aaW _ (abi.mpr ⟨l,hl,?_⟩)
     rcases hm with hm|hm
     ·exact aaI _ (by rw[hm];simp)
     ·exact aaW _ (by rw[hm];simp)
    ·rw[e];exact oa _ (Rr q' h4)
 ·obtain⟨rk,h1,h2⟩:=rank
  refine⟨rk,λq hq=>?_⟩
  rcases aak.mp hq with hq|hq
  ·exact h1 q hq
  ·rw[XS.mp hq];exact h2
 ·show x∈((D.made++[p]).take i).map (·.nm)
  have hq:(D.made++[p])[i]?=some q:=hq
  by_cases hi:i<D.made.length
  ·rw[abT hi] at hq
   rw[List.take_append_of_le_length (by omega)]
   rw[LU _ (oa _ (Rr q (XY hq)))] at hx
   exact I.before i q hq x hx
  ·have hl:=(List.getElem?_eq_some_iff.mp hq).1
   rw[YN] at hl
   have hi:i=D.made.length:=by have:[p].length=1:=rfl;omega
   subst hi
   rw[abk (XU _),Nat.sub_self] at hq
   cases hq
   rw[List.take_append_of_le_length (XU _),aaD]
   rw[US] at hx
   exact nn x hx
 ·have hx:x∈(D.made++[p]).map (·.nm):=hx
  rw[aaG] at hx
  rcases aak.mp hx with hx|hx
  ·rw[LU _ (oa x hx)] at hy ⊢
   rw[LU _ (oa y (O3 x hx y hy))] at hz
   exact I.trans x hx y hy z hz
  ·have hx:x=p.nm:=by simpa using hx
   rw[hx,US] at hy ⊢
   rw[LU _ (oa y (nn y hy))] at hz
   obtain⟨w,hw,hy⟩:=abi.mp hy
   refine abi.mpr ⟨w,hw,aal _ ?_⟩
   rcases aag.mp hy with rfl|hy
   ·exact hz
   ·exact I.trans w (I.lD s hs w (Wz w hw)).1 y hy z hz
 ·have old:∀u∈D.stores,∀x∈D.held u,x∈(D.keep s p).names/\∀y∈(D.keep s p).iE x,y∈D.held u:=λu hu x hx=>by
   obtain⟨h1,h2⟩:=I.lD u hu x hx
   refine⟨?_,λy hy=>?_⟩
   ·show x∈(D.made++[p]).map (·.nm)
    rw[aaG];exact aaI _ h1
   ·rw[LU _ (oa x h1)] at hy
    exact h2 y hy
  have hx:x∈(if t=s then D.held s++[p.nm] else D.held t):=hx
  show x∈(D.keep s p).names/\∀y∈(D.keep s p).iE x,y∈(if t=s then D.held s++[p.nm] else D.held t)
  by_cases e:t=s
  ·rw[aax e] at hx ⊢
   rcases aak.mp hx with hx|hx
   ·obtain⟨h1,h2⟩:=old s hs x hx
    exact⟨h1,λy hy=>aaI _ (h2 y hy)⟩
   ·have hx:x=p.nm:=by simpa using hx
    rw[hx]
    refine⟨?_,λy hy=>?_⟩
    ·show p.nm∈(D.made++[p]).map (·.nm)
     simp
    ·rw[US] at hy
     exact aaI _ (nh y hy)
  ·rw[aav e] at hx ⊢
   exact old t ht x hx
 ·show(if t=s then D.held s++[p.nm] else D.held t).Nodup
  by_cases e:t=s
  ·rw[aax e,abh]
   exact⟨I.vj s hs,by simp,λa ha b hb z=>fresh (by simp at hb;rw[<-hb,<-z];exact(I.lD s hs a ha).1)⟩
  ·rw[aav e];exact I.vj t ht
 ·rcases aak.mp hq with hq|hq
  ·exact I.KN q hq n hn
  ·rw[XS.mp hq] at hn ⊢
   obtain⟨q',h1,h2⟩:=jt n hn
   rw[me (I.DZ q' (lh.mp h1).1) h2]
   exact oa _ (Rr q' (lh.mp h1).1)
 ·rcases aak.mp hq with hq|hq
  ·rw[LU _ (oa _ (Rr q hq)),I.need q hq y]
   have e:∀z∈ik q,(D.keep s p).iE z=D.iE z:=λz hz=>LU z (oa z (O3 q.nm (Rr q hq) z ((I.need q hq z).mpr ⟨z,hz,.inl rfl⟩)))
   exact⟨λ⟨z,h1,h2⟩=>⟨z,h1,by rw[e z h1];exact h2⟩,λ⟨z,h1,h2⟩=>⟨z,h1,by rw[e z h1] at h2;exact h2⟩⟩
  ·rw[XS.mp hq,US]
   have e:∀z∈ik p,(D.keep s p).iE z=D.iE z:=λz hz=>LU z (oa z (I.lD s hs z (Wz z hz)).1)
   unfold qw
   rw[abi]
   exact⟨λ⟨z,h1,h2⟩=>⟨z,h1,by rw[e z h1];exact aag.mp h2⟩,λ⟨z,h1,h2⟩=>⟨z,h1,by rw[e z h1] at h2;exact aag.mpr h2⟩⟩
theorem record(I:Inv D){s f x:Str}(hs:s∈D.stores)(fresh:x∉D.names)(hq:D.jR s f=[])(texts:List Str):Inv (D.keep s (jW x f (D.row s f) texts)):=by
 obtain⟨rk,LS⟩:=I.rank
 have rise:=pH ((D.row s f).map (·.tx)) texts
 rw[O4] at rise
 have UT:∀t m,l5 (D.row s f) (K01.kept ((D.row s f).map (·.tx)) texts) t=some m->∃q∈D.jQ s,q.file=some f/\m∈q.ix.map (·.nm):=λt m h=>by
  obtain⟨q,_,_,l,hl,rfl⟩:=CM h
  obtain⟨p,h1,h2,h3⟩:=I.tj (XY hl)
  exact⟨p,h1,h2,aae h3⟩
 have own:∀q∈D.made,∀m∈q.ix.map (·.nm),m.1≠x:=λq hq m hm e=>fresh (by rw[<-e,me (I.DZ q hq) hm];exact aae hq)
 have ch:(D.row s f).Pairwise λa b=>rk a.nm<rk b.nm:=by
  have tr:Rk (gm (D.jQ s) f) rk:=λl hl=>by
   obtain⟨p,hp,_,hl⟩:=j7.mp hl
   exact LS p (lh.mp hp).1 l hl
  exact(chain hq).imp λz=>tr.ah z
 refine I.keep hs fresh ?_ (λl hl m hm=>?_) (λm hm=>?_) (λo ho=>by cases ho) ⟨Gx rk (l5 (D.row s f) (K01.kept ((D.row s f).map (·.tx)) texts)) x texts.length,λq hq=>?_,?_⟩
 ·show(kj x texts _).map (·.nm)=(List.range (kj x texts _).length).map λj=>(x,j)
  unfold kj
  rw[vg,<-List.range_eq_range']
 ·rcases zd texts 0 0 none l hl m hm with(z|⟨t,z⟩)|z
  ·cases z
  ·exact .inr (UT t m z)
  ·exact .inl z
 ·obtain⟨l,hl,rfl⟩:=List.mem_map.mp hm
  obtain⟨p,h1,_,h3⟩:=I.tj (aao.mp hl).1
  exact⟨p,h1,aae h3⟩
 ·refine KL (LS q hq) λl hl=>⟨own q hq _ (aae hl),λm hm=>?_⟩
  obtain⟨q',h1,_,h3,_⟩:=I.refs q hq l hl m hm
  exact own q' h1 m h3
 ·refine KJ (λa b c d h1 h2 h3=>Na rise ch h1 h2 h3) (λt m h=>?_) texts
  obtain⟨q,h1,_,h3⟩:=UT t m h
  exact own q (lh.mp h1).1 m h3
theorem cut(I:Inv D){s f x:Str}(hs:s∈D.stores)(fresh:x∉D.names){ms:List Nm}(hm:∀m∈ms,m∈(D.row s f).map (·.nm)):Inv (D.keep s ⟨x,some f,[],ms,none⟩):=by
 refine I.keep hs fresh rfl (λl hl=>by cases hl) (λm h=>?_) (λo ho=>by cases ho) ?_
 ·obtain⟨l,hl,rfl⟩:=List.mem_map.mp (hm m h)
  obtain⟨p,h1,_,h3⟩:=I.tj hl
  exact⟨p,h1,aae h3⟩
 ·obtain⟨rk,h⟩:=I.rank
  exact⟨rk,h,λl hl=>by cases hl⟩
theorem back(I:Inv D){s x o:Str}(hs:s∈D.stores)(fresh:x∉D.names)(ho:o∈D.held s):Inv (D.keep s ⟨x,none,[],[],some o⟩):=by
 refine I.keep hs fresh rfl (λl hl=>by cases hl) (λm h=>by cases h) (λo' h=>by cases h;exact ho) ?_
 obtain⟨rk,h⟩:=I.rank
 exact⟨rk,h,λl hl=>by cases hl⟩
theorem BW(I:Inv D){x:Str}(hx:x∈D.names):x∉D.iE x:=λh=>by
 obtain⟨q,hq,rfl⟩:=List.mem_map.mp hx
 obtain⟨i,hi⟩:=aaT.mp hq
 have h1:=I.before i q hi _ h
 rw[List.map_take] at h1
 obtain⟨j,hj⟩:=aaT.mp h1
 have Jt:j<i:=by have:=(List.getElem?_eq_some_iff.mp hj).1;rw[aaO] at this;omega
 rw[ab_,aax Jt] at hj
 have e3:(D.made.map (·.nm))[i]?=some q.nm:=by rw[aan,hi];rfl
 have:=(abR (List.getElem?_eq_some_iff.mp hj).1 I.nd).mp (hj.trans e3.symm)
 omega
theorem zf(I:Inv D){x y:Str}(hx:x∈D.names)(hy:y∈D.iE x):y∈D.names:=by
 obtain⟨q,hq,rfl⟩:=List.mem_map.mp hx
 obtain⟨i,hi⟩:=aaT.mp hq
 exact(acy i D.made).map _ |>.subset (I.before i q hi y hy)
theorem take(I:Inv D){s x:Str}(hs:s∈D.stores)(hx:x∈D.names):Inv (D.take s x):=by
 have cm:∀y∈D.oh s x,(y=x\/y∈D.iE x)/\y∉D.held s:=λy hy=>by
  obtain⟨h1,h2⟩:=aao.mp hy
  refine⟨?_,aaA h2⟩
  rcases aak.mp h1 with h|h
  ·exact .inr (aaA (aao.mp h).2)
  ·exact .inl (by simpa using h)
 have inn:∀y,y=x\/y∈D.iE x->y∈D.held s++D.oh s x:=λy hy=>by
  by_cases h:y∈D.held s
  ·exact aaI _ h
  ·refine aaW _ (aao.mpr ⟨?_,XZ h⟩)
   rcases hy with rfl|hy
   ·simp
   ·exact aaI _ (aao.mpr ⟨I.zf hx hy,XZ hy⟩)
 refine⟨I.nd,I.DZ,I.refs,I.rank,I.before,I.trans,I.stN,λt ht z hz=>?_,λt ht=>?_,I.KN,I.need⟩
 ·have hz:z∈(if t=s then D.held s++D.oh s x else D.held t):=hz
  show z∈D.names/\∀y∈D.iE z,y∈(if t=s then D.held s++D.oh s x else D.held t)
  by_cases e:t=s
  ·rw[aax e] at hz ⊢
   rcases aak.mp hz with hz|hz
   ·obtain⟨h1,h2⟩:=I.lD s hs z hz
    exact⟨h1,λy hy=>aaI _ (h2 y hy)⟩
   ·obtain⟨h1,_⟩:=cm z hz
    rcases h1 with rfl|h1
    ·exact⟨hx,λy hy=>inn y (.inr hy)⟩
    ·exact⟨I.zf hx h1,λy hy=>inn y (.inr (I.trans x hx z h1 y hy))⟩
  ·rw[aav e] at hz ⊢
   exact I.lD t ht z hz
 ·show(if t=s then D.held s++D.oh s x else D.held t).Nodup
  by_cases e:t=s
  ·rw[aax e,abh]
   refine⟨I.vj s hs,?_,λa ha b hb z=>(cm b hb).2 (z▸ha)⟩
   refine acp aa5 ?_
   rw[abh]
   refine⟨acp aa5 I.nd,by simp,λa ha b hb z=>?_⟩
   rw[XS.mp hb] at z
   subst z
   exact I.BW hx (aaA (aao.mp ha).2)
  ·rw[aav e];exact I.vj t ht
theorem drop(I:Inv D){s x:Str}(hs:s∈D.stores)(hx:∀z∈D.held s,x∉D.iE z):Inv (D.drop s x):=by
 refine⟨I.nd,I.DZ,I.refs,I.rank,I.before,I.trans,I.stN,λt ht z hz=>?_,λt ht=>?_,I.KN,I.need⟩
 ·have hz:z∈(if t=s then(D.held s).filter (λy=>y≠x) else D.held t):=hz
  show z∈D.names/\∀y∈D.iE z,y∈(if t=s then(D.held s).filter (λy=>y≠x) else D.held t)
  by_cases e:t=s
  ·rw[aax e] at hz ⊢
   have hz:=(aao.mp hz).1
   obtain⟨h1,h2⟩:=I.lD s hs z hz
   exact⟨h1,λy hy=>aao.mpr ⟨h2 y hy,XZ λe=>hx z hz (e▸hy)⟩⟩
  ·rw[aav e] at hz ⊢
   exact I.lD t ht z hz
 ·show(if t=s then(D.held s).filter (λy=>y≠x) else D.held t).Nodup
  by_cases e:t=s
  ·rw[aax e];exact acp aa5 (I.vj s hs)
  ·rw[aav e];exact I.vj t ht
theorem begin(I:Inv D){s:Str}(hs:s∉D.stores):Inv (D.begin s):=by
 refine⟨I.nd,I.DZ,I.refs,I.rank,I.before,I.trans,?_,λt ht z hz=>?_,λt ht=>?_,I.KN,I.need⟩
 ·show(D.stores++[s]).Nodup
  rw[abh]
  exact⟨I.stN,by simp,λa ha b hb e=>hs (by rw[<-XS.mp hb,<-e];exact ha)⟩
 ·have hz:z∈(if t=s then[] else D.held t):=hz
  show z∈D.names/\∀y∈D.iE z,y∈(if t=s then[] else D.held t)
  by_cases e:t=s
  ·rw[aax e] at hz;cases hz
  ·rw[aav e] at hz ⊢
   rcases aak.mp ht with ht|ht
   ·exact I.lD t ht z hz
   ·exact absurd (XS.mp ht) e
 ·show(if t=s then[] else D.held t).Nodup
  by_cases e:t=s
  ·rw[aax e];exact abt
  ·rw[aav e]
   rcases aak.mp ht with ht|ht
   ·exact I.vj t ht
   ·exact absurd (XS.mp ht) e
theorem BX(I:Inv D){s x:Str}{xs:List Str}(hs:s∈D.stores)(h:D.has s=xs++[x]):∀z∈D.held s,x∉D.iE z:=by
 intro z hz hx
 obtain⟨WA,_⟩:=I.lD s hs z hz
 obtain⟨q,hq,rfl⟩:=List.mem_map.mp WA
 obtain⟨i,hi⟩:=aaT.mp hq
 have h1:=I.before i q hi x hx
 have e:D.names=(D.made.take i).map (·.nm)++q.nm::(D.made.drop (i+1)).map (·.nm):=by
  have By:=(List.getElem?_eq_some_iff.mp hi).1
  unfold Dk.names
  conv=>lhs;rw[<-abV i D.made,aa6 By,(List.getElem?_eq_some_iff.mp hi).2]
  rw[aaG,aaK]
 have hn:=I.nd
 rw[e,abh,aa8] at hn
 unfold Dk.has at h
 rw[e,aaH,YR (p:=λy=>decide (y∈D.held s)) (XZ hz)] at h
 have hl:x∈q.nm::((D.made.drop (i+1)).map (·.nm)).filter λy=>decide (y∈D.held s):=by
  have h2:=abd List.getLast? h
  rw[List.getLast?_append,List.getLast?_append] at h2
  have h3:(q.nm::((D.made.drop (i+1)).map (·.nm)).filter λy=>decide (y∈D.held s)).getLast?=some x:=by
   cases e4:(q.nm::((D.made.drop (i+1)).map (·.nm)).filter λy=>decide (y∈D.held s)).getLast? with
   | none=>simp at e4
   | some y=>rw[e4] at h2;simpa using h2
  exact List.mem_of_getLast? h3
 have yK:x∈q.nm::(D.made.drop (i+1)).map (·.nm):=by
  rcases aag.mp hl with z|z
  ·rw[z];exact aaC
  ·exact aal _ (aao.mp z).1
 exact hn.2.2 x h1 x yK rfl
end Inv
end PM
namespace PK
open PySem L2
set_option genInjectivity false
set_option genSizeOf false
set_option genSizeOfSpec false
noncomputable def top(i:Nat):Stmt:=PySem.Challenge.pw_patchkin_k10_whole_recorded_stands.main.body.getD i (.Pass ⟨0,0,0,0⟩)
noncomputable section
noncomputable abbrev nL(l:List Str):List Str:=l
abbrev o4:=top 2
abbrev qy:=top 3
abbrev qz:=top 4
abbrev Gz:=top 5
noncomputable abbrev mT:=inClass (top 17) 0
noncomputable abbrev mf:=inClass (top 18) 0
abbrev kQ:=top 19
abbrev jS:=top 20
abbrev nS:=top 21
abbrev rM:=top 22
abbrev kR:=top 23
abbrev nU:=top 24
abbrev mi:=top 25
abbrev zV:=top 26
abbrev oF:=top 27
abbrev qA:=top 28
abbrev vq:=top 29
noncomputable abbrev mj:=inClass (top 30) 0
noncomputable abbrev ml:=inClass (top 30) 1
noncomputable abbrev kU:=inClass (top 30) 2
abbrev qB:=top 34
abbrev nV:=top 35
abbrev o5:=top 36
abbrev rN:=top 37
abbrev jX:=top 38
noncomputable abbrev mU:=inClass (top 39) 0
noncomputable abbrev qC:=inClass (top 39) 1
noncomputable abbrev tU:=inClass (top 39) 2
noncomputable abbrev rO:=inClass (top 39) 3
noncomputable abbrev qD:=inClass (top 39) 4
noncomputable abbrev my:=inClass (top 39) 5
noncomputable abbrev qE:=inClass (top 39) 6
noncomputable abbrev rP:=inClass (top 39) 7
noncomputable abbrev oG:=inClass (top 39) 8
noncomputable abbrev rQ:=inClass (top 39) 9
noncomputable abbrev nF:=inClass (top 39) 10
noncomputable abbrev vt:=inClass (top 39) 12
noncomputable abbrev qF:=inClass (top 39) 13
noncomputable abbrev mV:=inClass (top 39) 14
noncomputable abbrev ky:=inClass (top 39) 16
noncomputable abbrev mW:=inClass (top 39) 17
noncomputable abbrev lA:=inClass (top 39) 18
noncomputable abbrev lR:=inClass (top 39) 19
noncomputable abbrev lS:=inClass (top 39) 20
noncomputable abbrev mq:=inClass (top 39) 21
noncomputable abbrev rR:=inClass (top 39) 22
abbrev nX:=top 41
abbrev rS:=top 42
abbrev rV:=top 43
abbrev oH:=top 44
abbrev rW:=top 45
abbrev oI:=top 46
abbrev mG:=top 47
abbrev qG:=top 48
abbrev mX:=top 49
abbrev lT:=top 50
abbrev oJ:=top 51
abbrev kS:=top 52
abbrev zW:=top 53
abbrev yP:=nL ["self","name","text","upper_name","lower_name"]
theorem wY:gw yP ["self","name","text","upper_name","lower_name"] (gb mT):=mR
abbrev wZ:=nL ["self","name","file","puts","cuts","other"]
theorem vw:gw wZ ["self","name","file","puts","cuts","other"] (gb mf):=mR
noncomputable abbrev pI:=nL ["patch","names","line","name"]
theorem kA:gw pI ["patch"] (gb kQ):=mR
abbrev nu:=nL ["patch","leant","name"]
theorem kG:gw nu ["patch"] (gb jS):=mR
noncomputable abbrev zX:=nL ["patches","taken_back","live","patch"]
theorem lj:gw zX ["patches"] (gb nS):=mR
abbrev EI:=nL ["patches","file","lines","patch"]
theorem qH:gw EI ["patches","file"] (gb rM):=mR
noncomputable abbrev pJ:=nL ["patches","file","live","gone","patch","name","line"]
theorem je:gw pJ ["patches","file"] (gb kR):=mR
abbrev w_:=nL ["lines","straight","line"]
theorem kB:gw w_ ["lines"] (gb mi):=mR
noncomputable abbrev KO:=nL ["names","ahead","found","name"]
theorem xc:gw KO ["names","ahead"] (gb zV):=mR
abbrev xX:=nL ["lines","straight","ahead","line","climb","name","missing","other"]
theorem jF:gw xX ["lines"] (gb oF):=mR
abbrev CQ:=nL ["waiting","name"]
theorem tV:gw CQ ["waiting"] (gb qA):=mR
abbrev EJ:=nL ["lines","ahead","by_name","waiting","line","row","name","other"]
theorem lE:gw EJ ["lines","ahead"] (gb vq):=mR
abbrev xf:=nL ["self","patches","file"]
theorem vy:gw xf ["self","patches","file"] (gb mj):=mR
abbrev xg:=nL ["self","first","second"]
theorem vz:gw xg ["self","first","second"] (gb ml):=mR
abbrev tM:=nL ["self","pairs","first","second"]
theorem jG:gw tM ["self"] (gb kU):=mR
abbrev CS:=nL ["name","sign"]
theorem tW:gw CS ["name"] (gb qB):=mR
abbrev zY:=nL ["places","size","least","place"]
theorem ll:gw zY ["places","size"] (gb nV):=mR
abbrev A_:=nL ["kept_names","size","behind","place"]
theorem nY:gw A_ ["kept_names","size"] (gb o5):=mR
abbrev EK:=nL ["patch","texts","kept_names","behind","lines","upper_name","place","text"]
theorem jH:gw EK ["patch","texts","kept_names"] (gb rN):=mR
abbrev mr:=nL ["patch","file","row","texts","kept_names","left","first","second","cuts","line"]
theorem iI:gw mr ["patch","file","row","texts"] (gb jX):=mR
abbrev yQ:=nL ["self"]
theorem xh:gw yQ ["self"] (gb mU):=mR
abbrev CT:=nL ["self","store"]
theorem Ba:gw CT ["self","store"] (gb qC):=mR
abbrev zZ:=nL ["self","store","name"]
theorem xY:gw zZ ["self","store"] (gb qD):=mR
abbrev tX:=nL ["self","store","patch","file","texts","sight","line"]
theorem nZ:gw tX ["self","store","patch","file","texts"] (gb my):=mR
abbrev z8:=nL ["self","store","patch","file","places","row","place"]
theorem rX:gw z8 ["self","store","patch","file","places"] (gb qE):=mR
abbrev EL:=nL ["self","store","patch","other"]
theorem CU:gw EL ["self","store","patch","other"] (gb rP):=mR
noncomputable abbrev xZ:=nL ["self","store","source","patch","wanted","came","name"]
theorem lU:gw xZ ["self","store","source","patch"] (gb oG):=mR
abbrev EM:=nL ["self","store","patch","name"]
theorem vA:gw EM ["self","store","patch"] (gb rQ):=mR
abbrev vB:=nL ["self","patch","name"]
theorem tY:gw vB ["self","patch"] (gb nF):=mR
abbrev z_:=nL ["self","store","file","line"]
theorem x5:gw z_ ["self","store","file"] (gb qF):=mR
abbrev yR:=nL ["self","store","file"]
theorem xi:gw yR ["self","store","file"] (gb mV):=mR
abbrev oK:=nL ["self","store","name"]
theorem n4:gw oK ["self","store"] (gb ky):=mR
abbrev yS:=nL ["self","store","file"]
theorem xj:gw yS ["self","store","file"] (gb mW):=mR
abbrev ur:=nL ["self","store"]
theorem tN:gw ur ["self","store"] (gb lA):=mR
abbrev vC:=nL ["self","patch"]
theorem uu:gw vC ["self","patch"] (gb lR):=mR
abbrev vD:=nL ["self","store","patch"]
theorem uv:gw vD ["self","store","patch"] (gb lS):=mR
abbrev xk:=nL ["self","patch","files","name"]
theorem oM:gw xk ["self","patch","files"] (gb mq):=mR
abbrev EN:=nL ["self","store","patch","needs","name"]
theorem qI:gw EN ["self","store","patch"] (gb rR):=mR
abbrev Aa:=nL ["script","k"]
theorem yT:gw Aa ["script","k"] (gb nX):=mR
abbrev EO:=nL ["cell","k","bound","stir"]
theorem qJ:gw EO ["cell","k","bound"] (gb rS):=mR
abbrev ER:=nL ["cell","k","signs","size","base","far","found","j"]
theorem jl:gw ER ["cell","k"] (gb rV):=mR
abbrev x8:=nL ["cell","signs","size","j"]
theorem lV:gw x8 ["cell"] (gb oH):=mR
abbrev ES:=nL ["texts","cell","at","line","more","way","out","turned"]
theorem j8:gw ES ["texts","cell"] (gb rW):=mR
noncomputable abbrev x9:=nL ["desk","stores","files","cell","name","backs","store","file","way","more","row","source","names","line"]
theorem jm:gw x9 ["desk","stores","files","cell","name","backs"] (gb oI):=mR
abbrev rY:=nL ["script","first","most","backs","desk","stores","files","store","k","cell"]
theorem i8:gw rY ["script","first","most","backs"] (gb mG):=mR
abbrev CV:=nL ["found"]
theorem Bb:gw CV ["found"] (gb qG):=mR
abbrev yU:=nL ["row","line"]
theorem pK:gw yU ["row"] (gb mX):=mR
abbrev vE:=nL ["found","pair"]
theorem n5:gw vE ["found"] (gb lT):=mR
abbrev x_:=nL ["desk","store","files","file"]
theorem vF:gw x_ ["desk","store","files"] (gb oJ):=mR
abbrev pL:=nL ["before","behind","places","due","quarrels","pair","one","other","k"]
theorem iJ:gw pL ["before","behind","places"] (gb kS):=mR
abbrev ET:=nL ["script","built","desk","k","cell","store","at","name","before","mine","texts","behind","first","places","one","now","line","place"]
theorem jN:gw ET ["script"] (gb zW):=mR
structure Txt(mg:Qqx):Prop where
 jx:mg "len"=none
 lr:mg "range"=none
 TN:mg "max"=none
 jI:mg "isinstance"=none
 TQ:mg "int"=none
 Qu:mg "bool"=none
 xl:mg "list"=none
 Hx:mg "tuple"=none
 OF:mg "str"=none
 Ab:mg "reversed"=none
 EU:mg "sorted"=none
 abl:mg "set"=none
 EV:mg "enumerate"=none
 Nd:mg "ValueError"=none
structure Ad where
 Bc:Addr
 Be:FuncData
 CW:Addr
 CY:FuncData
 CZ:Addr
 C0:FuncData
 KP:Addr
 KQ:FuncData
 mY:Addr
 q9:FuncData
 mv:Addr
 pM:FuncData
 pN:Addr
 pO:FuncData
 nv:Addr
 nz:FuncData
 rZ:Addr
 r9:FuncData
 ya:Addr
 yb:FuncData
 pP:Addr
 pQ:FuncData
 uw:Addr
 ux:FuncData
 pR:Addr
 pS:FuncData
 EW:Addr
 EY:FuncData
 yc:Addr
 yd:FuncData
 vG:Addr
 vH:FuncData
 EZ:Addr
 E1:FuncData
 mw:Addr
 pT:FuncData
 pU:Addr
 pV:FuncData
 nA:Addr
 nB:FuncData
 vI:Addr
 vJ:FuncData
 r_:Addr
 sd:FuncData
 tZ:Addr
 t_:FuncData
 ye:Addr
 yf:FuncData
 pW:Addr
 pX:FuncData
 mZ:Addr
 q_:FuncData
 vK:Addr
 vL:FuncData
 Bg:Addr
 Bh:FuncData
 Ac:Addr
 Ae:FuncData
 Af:Addr
 Ag:FuncData
 ub:Addr
 uc:FuncData
 Ai:Addr
 Aj:FuncData
 yg:Addr
 yh:FuncData
 yi:Addr
 yj:FuncData
 yk:Addr
 yl:FuncData
 vM:Addr
 vN:FuncData
 C1:Addr
 C2:FuncData
 Ak:Addr
 Al:FuncData
 ra:Addr
 rb:FuncData
 oN:Addr
 oO:FuncData
 rf:Addr
 rg:FuncData
 n6:Addr
 n9:FuncData
 oP:Addr
 oQ:FuncData
 oR:Addr
 oS:FuncData
 pY:Addr
 pZ:FuncData
 ym:Addr
 yn:FuncData
 se:Addr
 si:FuncData
 yo:Addr
 yp:FuncData
 yq:Addr
 yr:FuncData
 yt:Addr
 yu:FuncData
 yv:Addr
 yw:FuncData
 yx:Addr
 yy:FuncData
 yz:Addr
 yA:FuncData
 vO:Addr
 vP:FuncData
 rh:Addr
 rj:FuncData
 oT:Addr
 oU:FuncData
 yB:Addr
 yC:FuncData
 p0:Addr
 p3:FuncData
 gH:Addr
 g_:Addr
 h_:Addr
 gn:Addr
 lW:Addr
 jC:Addr
 js:Addr
 iP:Addr
 jY:Addr
 n_:Addr
 lF:Addr
 uy:Addr
 tq:Addr
 nG:Tok
 lX:Tok
 z:Unit
structure Ok(K:Qqy)(mg:Qqx)(A:Ad):Prop where
 sj:DF K mg "counts_with" o4 A.Bc A.Be ["text","new","below"]
 uA:DF K mg "most_pairs" qy A.CW A.CY ["old","new"]
 uB:DF K mg "place_from" qz A.CZ A.C0 ["texts","text","start"]
 kept:DF K mg "kept" Gz A.KP A.KQ ["old","new"]
 ud:DM K A.gH "__init__" "Line.__init__" mT A.mY A.q9 ["self","name","text","upper_name","lower_name"]
 lY:DM K A.g_ "__init__" "Patch.__init__" mf A.mv A.pM ["self","name","file","puts","cuts","other"]
 sr:DF K mg "lines_named_by" kQ A.pN A.pO ["patch"]
 oV:DF K mg "leans_straight_on" jS A.nv A.nz ["patch"]
 vQ:DF K mg "live_patches" nS A.rZ A.r9 ["patches"]
 xm:DF K mg "lines_put" rM A.ya A.yb ["patches","file"]
 su:DF K mg "standing_lines" kR A.pP A.pQ ["patches","file"]
 IL:DF K mg "files_with_lines" nU A.uw A.ux ["patches"]
 sx:DF K mg "straight_ahead" mi A.pR A.pS ["lines"]
 joined:DF K mg "joined" zV A.EW A.EY ["names","ahead"]
 BY:DF K mg "all_ahead" oF A.yc A.yd ["lines"]
 Am:DF K mg "first_free" qA A.vG A.vH ["waiting"]
 KR:DF K mg "row_of" vq A.EZ A.E1 ["lines","ahead"]
 sy:DM K A.h_ "__init__" "Sight.__init__" mj A.mw A.pT ["self","patches","file"]
 sA:DM K A.h_ "is_ahead" "Sight.is_ahead" ml A.pU A.pV ["self","first","second"]
 jJ:DM K A.h_ "quarrelling" "Sight.quarrelling" kU A.nA A.nB ["self"]
 uC:DF K mg "check_name" qB A.vI A.vJ ["name"]
 vR:DF K mg "check_places" nV A.r_ A.sd ["places","size"]
 yD:DF K mg "kept_behind" o5 A.tZ A.t_ ["kept_names","size"]
 BZ:DF K mg "new_lines" rN A.ye A.yf ["patch","texts","kept_names"]
 sC:DF K mg "changing_patch" jX A.pW A.pX ["patch","file","row","texts"]
 ue:DM K A.gn "__init__" "Desk.__init__" mU A.mZ A.q_ ["self"]
 An:DM K A.gn "begin" "Desk.begin" qC A.vK A.vL ["self","store"]
 OG:DM K A.gn "stores" "Desk.stores" tU A.Bg A.Bh ["self"]
 Nf:DM K A.gn "patches" "Desk.patches" rO A.Ac A.Ae ["self"]
 k8:DM K A.gn "has" "Desk.has" qD A.Af A.Ag ["self","store"]
 sD:DM K A.gn "record" "Desk.record" my A.ub A.uc ["self","store","patch","file","texts"]
 Ao:DM K A.gn "cut" "Desk.cut" qE A.Ai A.Aj ["self","store","patch","file","places"]
 B0:DM K A.gn "back" "Desk.back" rP A.yg A.yh ["self","store","patch","other"]
 B1:DM K A.gn "take" "Desk.take" oG A.yi A.yj ["self","store","source","patch"]
 B2:DM K A.gn "drop" "Desk.drop" rQ A.yk A.yl ["self","store","patch"]
 Ap:DM K A.gn "leans" "Desk.leans" nF A.vM A.vN ["self","patch"]
 Qv:DM K A.gn "files" "Desk.files" vt A.C1 A.C2 ["self","store"]
 vS:DM K A.gn "row" "Desk.row" qF A.Ak A.Al ["self","store","file"]
 mz:DM K A.gn "quarrels" "Desk.quarrels" mV A.ra A.rb ["self","store","file"]
 rl:DM K A.gn "patches_of" "Desk.patches_of" ky A.oN A.oO ["self","store"]
 k9:DM K A.gn "sight_of" "Desk.sight_of" mW A.rf A.rg ["self","store","file"]
 iQ:DM K A.gn "check_store" "Desk.check_store" lA A.n6 A.n9 ["self","store"]
 rm:DM K A.gn "check_made" "Desk.check_made" lR A.oP A.oQ ["self","patch"]
 lu:DM K A.gn "check_held" "Desk.check_held" lS A.oR A.oS ["self","store","patch"]
 lZ:DM K A.gn "check_new" "Desk.check_new" mq A.pY A.pZ ["self","patch","files"]
 tw:DM K A.gn "keep" "Desk.keep" rR A.ym A.yn ["self","store","patch"]
 i9:DF K mg "_law_cell_at" nX A.se A.si ["script","k"]
 B3:DF K mg "_law_draw" rS A.yo A.yp ["cell","k","bound"]
 p6:DF K mg "_law_name" rV A.yq A.yr ["cell","k"]
 xn:DF K mg "_law_text" oH A.yt A.yu ["cell"]
 xo:DF K mg "_law_edit" rW A.yv A.yw ["texts","cell"]
 B4:DF K mg "_law_deed" oI A.yx A.yy ["desk","stores","files","cell","name","backs"]
 B5:DF K mg "_law_desk" mG A.yz A.yA ["script","first","most","backs"]
 qK:DF K mg "_law_whole" qG A.vO A.vP ["found"]
 o6:DF K mg "_law_row_form" mX A.rh A.rj ["row"]
 rn:DF K mg "_law_pairs_form" lT A.oT A.oU ["found"]
 tE:DF K mg "_law_seen" oJ A.yB A.yC ["desk","store","files"]
 sE:DF K mg "_law_cut_right" kS A.p0 A.p3 ["before","behind","places"]
 iL:FN K A.gH
 Qw:Mk K A.gH A.mY
 Qx:mg "Line"=some (.ref A.gH)
 gF:jU K A.gH "name"
 jK:jU K A.gH "text"
 iF:jU K A.gH "upper_name"
 iG:jU K A.gH "lower_name"
 jn:FN K A.g_
 C3:Mk K A.g_ A.mv
 C4:mg "Patch"=some (.ref A.g_)
 iU:jU K A.g_ "name"
 kq:jU K A.g_ "file"
 jO:jU K A.g_ "puts"
 jP:jU K A.g_ "cuts"
 iW:jU K A.g_ "other"
 j9:FN K A.h_
 Ng:Mk K A.h_ A.mw
 Nh:mg "Sight"=some (.ref A.h_)
 jy:jU K A.h_ "ahead"
 il:jU K A.h_ "lines"
 gE:FN K A.gn
 Qy:Mk K A.gn A.mZ
 Qz:mg "Desk"=some (.ref A.gn)
 iX:jU K A.gn "made"
 i_:jU K A.gn "needs"
 iw:jU K A.gn "held"
 Ni:Exc K mg "PatchError" A.lW
 B6:Exc K mg "BadName" A.jC
 yE:Exc K mg "NameTaken" A.js
 IM:Exc K mg "NoStore" A.iP
 B7:Exc K mg "NoPatch" A.jY
 KS:Exc K mg "NoLine" A.n_
 E2:Exc K mg "Unsettled" A.lF
 KU:Exc K mg "Same" A.uy
 Nj:Exc K mg "Leant" A.tq
 C5:mg "NAME_SIGNS"=some (.str (Str.ofString "abcdefghijklmnopqrstuvwxyz0123456789") A.nG)
 sF:mg "LONGEST_NAME"=some (.int 12 A.lX)
 z:True
end
open PySem L2 PM
noncomputable def nk(n:Nm):List Key:=[Sum.inr n.1,Sum.inl (n.2:Int)]
theorem o7{a b:Nm}(h:nk a=nk b):a=b:=by
 unfold nk at h
 injection h with h1 h2
 injection h2 with h2 _
 exact Prod.ext (acF h1) (by have:=Sum.inl.inj h2;omega)
noncomputable abbrev nT(n:Nm):HO:=.tup ((nk n).map kV)
def lI(H:Hp)(v:V)(n:Nm):Prop:=∃t,v=.ref t/\H t=some (nT n)
def GA(H:Hp)(v:V):Option Nm->Prop
 | none=>v=.jc
 | some n=>lI H v n
def We(v:V):Option Str->Prop
 | none=>v=.jc
 | some x=>v=.str x
noncomputable def Nk(a b c d:V):List (Str×V):=[("name",a),("text",b),("upper_name",c),("lower_name",d)]
theorem iY{a b c d:V}:(Nk a b c d).lookup ("name":Str)=some a:=by kernel_rfl
theorem Aq{a b c d:V}:(Nk a b c d).lookup ("text":Str)=some b:=by kernel_rfl
theorem GB{a b c d:V}:(Nk a b c d).lookup ("upper_name":Str)=some c:=by kernel_rfl
theorem GD{a b c d:V}:(Nk a b c d).lookup ("lower_name":Str)=some d:=by kernel_rfl
noncomputable def Nl(a b c d e:V):List (Str×V):=[("name",a),("file",b),("puts",c),("cuts",d),("other",e)]
theorem sG{a b c d e:V}:(Nl a b c d e).lookup ("name":Str)=some a:=by kernel_rfl
theorem KW{a b c d e:V}:(Nl a b c d e).lookup ("file":Str)=some b:=by kernel_rfl
theorem E3{a b c d e:V}:(Nl a b c d e).lookup ("puts":Str)=some c:=by kernel_rfl
theorem E5{a b c d e:V}:(Nl a b c d e).lookup ("cuts":Str)=some d:=by kernel_rfl
theorem tF{a b c d e:V}:(Nl a b c d e).lookup ("other":Str)=some e:=by kernel_rfl
def mH(A:Ad)(H:Hp)(a:Addr)(l:Ln):Prop:=∃dx vn vu vl,H a=some (.ins A.gH dx (Nk vn (.str l.tx) vu vl))/\lI H vn l.nm/\GA H vu l.up/\GA H vl l.lo
def oj(A:Ad)(H:Hp)(a:Addr)(ls:List Ln):Prop:=∃as:List Addr,H a=some (.lst (as.map V.ref))/\Paired (mH A H) as ls
def vT(H:Hp)(a:Addr)(ns:List Nm):Prop:=∃vs,H a=some (.lst vs)/\Paired (lI H) vs ns
def om(A:Ad)(H:Hp)(a:Addr)(p:Pt):Prop:=∃dx vf pu cu vo,H a=some (.ins A.g_ dx (Nl (.str p.nm) vf (.ref pu) (.ref cu) vo))/\We vf p.file/\oj A H pu p.ix/\vT H cu p.jt/\We vo p.other
def yV(A:Ad)(H:Hp)(a:Addr)(ps:List Pt):Prop:=∃as:List Addr,H a=some (.lst (as.map V.ref))/\Paired (om A H) as ps
section
variable{A:Ad}{H H':Hp}{a:Addr}
theorem lI.same{v:V}{n:Nm}(x:lI H v n)(s:gh H H'):lI H' v n:=by obtain⟨t,e,h⟩:=x;exact⟨t,e,s _ _ h⟩
theorem GA.same{v:V}{o:Option Nm}(x:GA H v o)(s:gh H H'):GA H' v o:=by
 cases o with
 | none=>exact x
 | some n=>exact lI.same x s
theorem mH.same{l:Ln}(x:mH A H a l)(s:gh H H'):mH A H' a l:=by
 obtain⟨dx,vn,vu,vl,h,h1,h2,h3⟩:=x
 exact⟨dx,vn,vu,vl,s _ _ h,h1.same s,h2.same s,h3.same s⟩
theorem oj.same{ls:List Ln}(x:oj A H a ls)(s:gh H H'):oj A H' a ls:=by
 obtain⟨as,h,p⟩:=x
 exact⟨as,s _ _ h,Paired.i4 p λ_ _ z=>z.same s⟩
theorem vT.same{ns:List Nm}(x:vT H a ns)(s:gh H H'):vT H' a ns:=by
 obtain⟨vs,h,p⟩:=x
 exact⟨vs,s _ _ h,Paired.i4 p λ_ _ z=>z.same s⟩
theorem om.same{p:Pt}(x:om A H a p)(s:gh H H'):om A H' a p:=by
 obtain⟨dx,vf,pu,cu,vo,h,h1,h2,h3,h4⟩:=x
 exact⟨dx,vf,pu,cu,vo,s _ _ h,h1,h2.same s,h3.same s,h4⟩
theorem yV.same{ps:List Pt}(x:yV A H a ps)(s:gh H H'):yV A H' a ps:=by
 obtain⟨as,h,p⟩:=x
 exact⟨as,s _ _ h,Paired.i4 p λ_ _ z=>z.same s⟩
end
theorem ic{Z Y:Type}{F:Z->Y->Prop}{xs:List Z}{ys:List Y}(p:Paired F xs ys):∀{i:Nat} {x:Z},xs[i]?=some x->∃y,ys[i]?=some y/\F x y:=by
 induction p with
 | nil=>intro i x h;simp at h
 | cons f t ih=>
  intro i x h
  cases i with
  | zero=>simp at h;subst h;exact⟨_,rfl,f⟩
  | succ i=>simpa using ih (by simpa using h)
theorem ir{Z Y:Type}{F:Z->Y->Prop}{xs:List Z}{ys:List Y}(p:Paired F xs ys):∀{i:Nat} {y:Y},ys[i]?=some y->∃x,xs[i]?=some x/\F x y:=by
 induction p with
 | nil=>intro i x h;simp at h
 | cons f t ih=>
  intro i x h
  cases i with
  | zero=>simp at h;subst h;exact⟨_,rfl,f⟩
  | succ i=>simpa using ih (by simpa using h)
theorem uD{Z Y:Type}{F:Z->Y->Prop}{xs zs:List Z}{ys ws:List Y}(p:Paired F xs ys)(q:Paired F zs ws):Paired F (xs++zs) (ys++ws):=by
 induction p with
 | nil=>exact q
 | cons f t ih=>exact .cons f ih
theorem ij{Z Y:Type}{F:Z->Y->Prop}{xs:List Z}{ys:List Y}{x:Z}{y:Y}(p:Paired F xs ys)(h:F x y):Paired F (xs++[x]) (ys++[y]):=uD p (.cons h .nil)
theorem Ar{Z Y:Type}{F:Z->Y->Prop}{xs:List Z}{ys:List Y}(p:Paired F xs ys):Paired F xs.reverse ys.reverse:=by
 induction p with
 | nil=>exact .nil
 | cons f t ih=>rw[acB,acB];exact ij ih f
theorem j_{as:List Addr}{i:Nat}{v:V}(h:(as.map V.ref)[i]?=some v):∃b,as[i]?=some b/\v=.ref b:=by
 rw[aan] at h
 obtain⟨b,e,rfl⟩:=Option.map_eq_some_iff.mp h
 exact⟨b,e,rfl⟩
theorem We.eq{v:V}{o:Option Str}(h:We v o)(f:Str):decide (v=.str f)=decide (o=some f):=by
 cases o with
 | none=>rw[show v=.jc from h,aap (λz=>by cases z),aap (λz=>by cases z)]
 | some x=>
  rw[show v=.str x from h]
  by_cases e:x=f
  ·subst e;rw[XZ rfl,XZ rfl]
  ·rw[aap (λz=>e (V.str.inj z)),aap (λz=>e (aaE z))]
theorem OH{Z:Type}{xs:List Z}{x:Z}{i:Nat}(h:xs.length<=i:=by assumption):(xs++[x]).length<=i+1:=by rw[YN];exact Nat.succ_le_succ h
def xp(n:Nat):Prop:=n<=4000
theorem xp.sz{n:Nat}(h:xp n):n<=sizeLine:=aam h (by decide)
section
variable{P:Program}{w:World}{K:Qqy}{mg:Qqx}{base:Heap}{A:Ad}
def QA(A:Ad):Sp:=λvs H Q _=>∃(a:Addr)(ps:List Pt),vs=[.ref a]/\yV A H a ps/\xp ps.length/\∀p H',gh H H'->H p=none->yV A H' p (live ps)->Q (.ref p) H'
def Tb(kvs:List (Key×V))(t:List Str):Prop:=∀x,(iN kvs (Sum.inr x)).isSome=decide (x∈t)
theorem Tb.put{kvs:List (Key×V)}{t:List Str}(h:Tb kvs t)(y:Str)(v:V):Tb (putK kvs (Sum.inr y) v) (y::t):=λx=>by
 rw[ke]
 by_cases e:x=y
 ·subst e;rw[aax rfl,XZ aaC];rfl
 ·rw[aav (λz=>e (acF z)),h x]
  by_cases m:x∈t
  ·rw[XZ m,XZ (aal _ m)]
  ·rw[aap m,aap (λz=>(aag.mp z).elim e m)]
theorem GF(p:Pt)(r:List Pt)(t:List Str):nq (p::r) t=if p.nm∈t then nq r t else p::nq r (match p.other with|some o=>o::t|none=>t):=rfl
theorem yW(T:Txt mg)(O:Ok K mg A):ig P w K mg base mK 1 A.rZ A.r9 ["patches"] (QA A):=by
 refine O.vQ.f.rA lj λju A0 outer s H vs Q E hr h=>?_
 obtain⟨a,ps,rfl,⟨as,ha,pa⟩,jM,q⟩:=h
 have hlen:=aau pa
 refine⟨_,(de (k7 1 lj nK)
   (de (k7 2 lj (iB e_))
   (de (iD aaM rfl (MX rfl T.Ab (a_ (pv 0) e_)) (tL 3 lj) (fR (ip (jv (lC (by exact iT hr) (gA (pv 3) rfl) (pv 1))) (de (hV (pB aa1 aa_ aba ko (pv 2) (a_ (pv 3) e_)))
   (fR (ip (jv (s_ (gA (pv 3) rfl))) (fR (jB (by exact iT hr) (pv 1) (gA (pv 3) rfl) kc rfl)) hU))) hU)))
   (fR (hG (Gq rfl (by rfl) T.xl (by rfl) T.Ab (a_ (pv 2) e_))))))),?_⟩
 refine OE ?_;intro _ _ _
 intro t ht
 have s1:gh H (upd H t (.dK [])):=(gh.refl H).new ht
 refine⟨L2.jM,λl hl=>?_⟩
 have s2:gh H (upd (upd H t (.dK [])) l (.lst [])):=s1.new hl
 have N6:t≠l:=λz=>by rw[z] at hl;rw[b_] at hl;cases hl
 refine⟨_,rfl,a,_,rfl,gC.of (s2 a _ ha),MY (K:=K) (a:=a) (xs:=as.map V.ref) (λi Z H2=>∃(v:Option V)(kvs:List (Key×V))(tb:List Str)(ls:List Addr)(lp:List Pt),Z=[rr a,rr t,rr l,v]/\gh H H2/\H2 t=some (.dK kvs)/\Tb kvs tb/\kvs.length<=i/\H2 l=some (.lst (ls.map V.ref))/\ls.length<=i/\Paired (om A H) ls lp/\lp++nq (ps.reverse.drop i) tb=nq ps.reverse [])
  ⟨none,[],[],[],[],rfl,s2,by rw[d_ N6];exact b_,(λx=>rfl),XU _,b_,XU _,.nil,rfl⟩ (by rintro _ _ _ _ ⟨_,_,_,_,_,_,s3,_⟩;exact gC.of (s3 a _ ha)) ?_ ?_⟩
 ·rintro i v Z H2 hx ⟨v0,kvs,tb,ls,lp,rfl,s3,h1,h2,h3,h4,h5,h6,h7⟩
  rw[<-List.map_reverse] at hx
  obtain⟨b,hb,rfl⟩:=j_ hx
  obtain⟨p,hp,dx,vf,pu,cu,vo,g1,g2,g3,g4,g5⟩:=ic (Ar pa) hb
  have hi:i<ps.reverse.length:=(List.getElem?_eq_some_iff.mp hp).1
  have By:i<4000:=by rw[abE] at hi;exact aaR hi jM
  have hd:ps.reverse.drop i=p::ps.reverse.drop (i+1):=by rw[aa6 hi];congr 1;exact(List.getElem?_eq_some_iff.mp hp).2
  rw[hd] at h7
  refine⟨_,rfl,b,A.g_,dx,_,_,rfl,s3 _ _ g1,O.jn,O.iU,sG,_,rfl,t,_,rfl,i6.k (k:=Sum.inr p.nm) h1,_,rfl,?_⟩
  rw[h2 p.nm]
  rw[GF] at h7
  by_cases hm:p.nm∈tb
  ·rw[aax hm] at h7
   rw[XZ hm]
   exact jg ⟨_,kvs,tb,ls,lp,rfl,s3,h1,h2,by omega,h4,by omega,h6,h7⟩
  ·rw[aav hm] at h7
   rw[aap hm]
   refine lK ?_
   refine⟨_,rfl,.inl ⟨rfl,_,gC.of h4⟩,_,rfl,l,_,_,rfl,rfl,h4,by rw[O4];exact aby h5 (Nat.lt_trans By (by decide)),?_⟩
   have YS:H l=none:=s1.free hl
   have s4:gh H (upd H2 l (.lst (ls.map V.ref++[V.ref b]))):=s3.upd YS
   have NZ:upd H2 l (.lst (ls.map V.ref++[V.ref b])) t=some (.dK kvs):=by rw[d_ N6];exact h1
   have e4:upd H2 l (.lst (ls.map V.ref++[V.ref b])) l=some (.lst ((ls++[b]).map V.ref)):=by rw[b_,aaG];rfl
   have pp:Paired (om A H) (ls++[b]) (lp++[p]):=ij h6 ⟨dx,vf,pu,cu,vo,g1,g2,g3,g4,g5⟩
   have hl5:(ls++[b]).length<=i+1:=OH
   refine⟨_,rfl,b,A.g_,dx,_,_,rfl,s4 _ _ g1,O.jn,O.iW,tF,_,rfl,?_⟩
   cases ho:p.other with
   | none=>
    rw[ho] at g5 h7
    rw[show vo=V.jc from g5]
    exact⟨_,kvs,tb,_,_,rfl,s4,NZ,h2,by omega,e4,hl5,pp,by rw[aa4];exact h7⟩
   | some x=>
    rw[ho] at g5 h7
    rw[show vo=V.str x from g5] at g1 ⊢
    refine⟨_,rfl,_,rfl,b,A.g_,dx,_,_,rfl,s4 _ _ g1,O.jn,O.iW,tF,t,_,rfl,nE.k (k:=Sum.inr x) NZ (aby h3 (Nat.lt_trans By (by decide))),?_⟩
    have hlk:=jr kvs (Sum.inr x:Key) (V.bl true)
    have htH:H t=none:=ht
    exact⟨_,_,x::tb,_,_,rfl,s4.upd htH,b_,h2.put x _,by omega,by rw[d_ N6.symm];exact e4,hl5,pp,by rw[aa4];exact h7⟩
 ·rintro Z H2 ⟨v0,kvs,tb,ls,lp,rfl,s3,h1,h2,h3,h4,h5,h6,h7⟩
  rw[O4] at h3 h5 h7
  rw[hlen,<-abE,acE] at h7
  have h7:lp=nq ps.reverse []:=by rw[show nq [] tb=[] from rfl,aaZ] at h7;exact h7
  refine⟨_,rfl,l,_,rfl,gC.of h4,λp hp=>?_⟩
  have s4:=s3.new (o:=.lst (ls.map V.ref).reverse) hp
  refine q p _ s4 (s3.free hp) ⟨ls.reverse,by rw[b_,List.map_reverse],?_⟩
  unfold live
  rw[<-h7]
  exact Paired.i4 (Ar h6) λ_ _ z=>z.same s4
theorem sI{Z Y:Type}{f:Z->List Y}{ps qs:List Z}(h:ps.Sublist qs):(ps.flatMap f).Sublist (qs.flatMap f):=by
 induction h with
 | slnil=>exact aaU _
 | cons x _ ih=>rw[aaV];exact ih.trans (abj _ _)
 | cons_cons x _ ih=>rw[aaV,aaV];exact(aaU _).append ih
structure Small(ps:List Pt):Prop where
 many:xp ps.length
 ix:xp (ps.flatMap (·.ix)).length
 jt:xp (ps.flatMap (·.jt)).length
theorem Small.sub{ps qs:List Pt}(h:ps.Sublist qs)(s:Small qs):Small ps:=⟨aam h.length_le s.many,aam (sI h).length_le s.ix,aam (sI h).length_le s.jt⟩
theorem qL(ps:List Pt)(f:Str):(gm ps f).length<=(ps.flatMap (·.ix)).length:=(sI aa5).length_le
theorem Bi(ps:List Pt)(p:Pt)(f:Str):gm (ps++[p]) f=gm ps f++if p.file=some f then p.ix else[]:=by
 unfold gm
 rw[aaH,abc]
 by_cases h:p.file=some f
 ·rw[aax h,YR (by simpa using h),aa2,aaV,abZ,aaZ]
 ·rw[aav h,aai (by simpa using h),aa2,abZ]
theorem take_snoc{Z:Type}{xs:List Z}{i:Nat}{x:Z}(h:xs[i]?=some x):xs.take (i+1)=xs.take i++[x]:=by rw[List.take_add_one,h];rfl
def R_(kvs:List (List Key×V))(ns:List Nm):Prop:=∀n,(iN kvs (nk n)).isSome=decide (n∈ns)
theorem R_.put{kvs:List (List Key×V)}{ns:List Nm}(h:R_ kvs ns)(y:Nm)(v:V):R_ (putK kvs (nk y) v) (ns++[y]):=λx=>by
 rw[ke]
 by_cases e:x=y
 ·subst e;rw[aax rfl,XZ (by simp)];rfl
 ·rw[aav (λz=>e (o7 z)),h x]
  by_cases m:x∈ns
  ·rw[XZ m,XZ (aaI _ m)]
  ·rw[aap m,aap (λz=>(aak.mp z).elim m λz=>e (XS.mp z))]
def TR(A:Ad):Sp:=λvs H Q _=>∃(a:Addr)(ps:List Pt)(f:Str),vs=[.ref a,.str f]/\yV A H a ps/\Small ps/\∀p H',gh H H'->H p=none->oj A H' p (gm ps f)->Q (.ref p) H'
theorem vU(T:Txt mg)(O:Ok K mg A):ig P w K mg base mK 1 A.ya A.yb ["patches","file"] (TR A):=by
 refine O.xm.f.rA qH λju A0 outer s H vs Q E hr h=>?_
 obtain⟨a,ps,f,rfl,⟨as,ha,pa⟩,sm,q⟩:=h
 have hlen:=aau pa
 refine⟨_,(de (k7 2 qH (iB e_))
   (de (iD aaM rfl (ie (pv 0)) (tL 3 qH) (fR (ip (hX mB (gA (pv 3) rfl) (pv 1) (iA _)) (fR (hV (pB aa1 PySem.F.slot_list_extend PySem.F.type_list_extend BI (pv 2) (a_ (gA (pv 3) rfl) e_)))) hU)))
   (fR (hG (pv 2))))),?_⟩
 refine FO ?_;intro _ _
 refine⟨L2.jM,λl hl=>?_⟩
 have s1:gh H (upd H l (.lst [])):=(gh.refl H).new hl
 dsimp only [l7];refine Jz ?_;intro _
 let Jv:=λ(i:Nat) (Z:St) (H2:Hp)=>∃(v:Option V)(ls:List Addr),Z=[rr a,rs f,rr l,v]/\gh H H2/\H2 l=some (.lst (ls.map V.ref))/\Paired (mH A H) ls (gm (ps.take i) f)
 refine⟨_,rfl,a,rfl,⟨_,gC.of (s1 a _ ha)⟩,iV (K:=K) (a:=a) (xs:=as.map V.ref) Jv
  ⟨none,[],rfl,s1,b_,.nil⟩ (by rintro _ _ _ _ ⟨_,_,_,s3,_⟩;exact gC.of (s3 a _ ha)) ?_ ?_⟩
 ·rintro i v Z H2 hx ⟨v0,ls,rfl,s3,h4,h6⟩
  obtain⟨b,hb,rfl⟩:=j_ hx
  obtain⟨p,hp,dx,vf,pu,cu,vo,g1,g2,⟨as2,g3,UW⟩,g4,g5⟩:=ic pa hb
  have e:gm (ps.take (i+1)) f=gm (ps.take i) f++if p.file=some f then p.ix else[]:=by rw[take_snoc hp,Bi]
  refine⟨_,rfl,b,A.g_,dx,_,_,rfl,s3 _ _ g1,O.jn,O.kq,KW,_,rfl,?_⟩
  have hf:PX vf (V.str f)=true:=by
   cases hq:p.file with
   | none=>rw[hq] at g2;rw[show vf=V.jc from g2];rfl
   | some x=>rw[hq] at g2;rw[show vf=V.str x from g2];rfl
  refine⟨hf,_,rfl,?_⟩
  rw[g2.eq f]
  by_cases hm:p.file=some f
  ·rw[aax hm] at e
   rw[XZ hm]
   refine lK ?_
   refine⟨_,rfl,.inl ⟨rfl,_,gC.of h4⟩,_,rfl,b,A.g_,dx,_,_,rfl,s3 _ _ g1,O.jn,O.jO,E3,l,pu,_,_,rfl,rfl,h4,s3 _ _ g3,?_,?_⟩
   ·rw[O4,O4,aau h6,aau UW,<-YN,<-e]
    exact aam (qL _ f) (Small.sub (acy _ _) sm).ix.sz
   ·refine⟨_,ls++as2,rfl,s3.upd hl,by rw[b_,aaG],?_⟩
    rw[e]
    exact uD h6 UW
  ·rw[aav hm,aaZ] at e
   rw[aap hm]
   exact jg ⟨_,ls,rfl,s3,h4,by rw[e];exact h6⟩
 ·rintro Z H2 ⟨v0,ls,rfl,s3,h4,h6⟩
  rw[O4,hlen,aaD] at h6
  exact⟨_,rfl,q l _ s3 hl ⟨ls,h4,Paired.i4 h6 λ_ _ z=>z.same s3⟩⟩
theorem IP(ps:List Pt)(p:Pt):gone (ps++[p])=gone ps++p.jt:=by
 unfold gone
 rw[abc,aaV,abZ,aaZ]
def Nn(A:Ad):Sp:=λvs H Q _=>∃(a:Addr)(ps:List Pt)(f:Str),vs=[.ref a,.str f]/\yV A H a ps/\Small ps/\∀p H',gh H H'->H p=none->oj A H' p (jj ps f)->Q (.ref p) H'
theorem vV(T:Txt mg)(O:Ok K mg A):ig P w K mg base mK 2 A.pP A.pQ ["patches","file"] (Nn A):=by
 have AJ:=@yW P w K mg base A T O
 have sW:=@vU P w K mg base A T O
 refine O.su.f.rA je λju A0 outer s H vs Q E hr h=>?_
 obtain⟨a,ps,f,rfl,pa,sm,q⟩:=h
 refine⟨_,(de (k7 2 je (og O.vQ AJ hr (a_ (pv 0) e_)))
   (de (ly (i:=3) je.nd rfl (Or.inr rfl) mE)
   (de (iD aaM rfl (ie (pv 2)) (tL 4 je) (fR (iD aaM rfl (ie (gA (pv 4) rfl)) (tL 5 je) (fR (jB (by exact iT hr) (pv 3) (pv 5) kc rfl)))))
   (fR (hG (zE pJ (gb kR).names [6] rfl (ie (og O.xm sW hr (a_ (pv 2) (a_ (pv 1) e_)))) rfl (by decide+kernel) (λ_ _ _ _=>(iu (i:=6) je.nd rfl (Or.inl rfl))) (λ_ _ _ _=>⟨_,nM (jv (lC (by exact iT hr) (gA (pv 6) rfl) (pv 3))),by(try simp only [kO]);rfl⟩) (λ_ _ _ _=>zb (pv 6)))))))),?_⟩
 refine OE ?_;intro _ _ _
 refine⟨_,rfl,a,ps,rfl,pa,sm.many,λl H1 s1 So O5=>?_⟩
 have YT:Small (live ps):=sm.sub (vb ps)
 obtain⟨as,ha,pl⟩:=id O5
 have hlen:=aau pl
 intro g hg
 have s2:gh H1 (upd H1 g (.dT [])):=(gh.refl H1).new hg
 dsimp only [l7];refine Jz ?_;intro _
 let Jv:=λ(i:Nat) (Z:St) (H2:Hp)=>∃(v4 v5:Option V)(kvs:List (List Key×V)),Z=[rr a,rs f,rr l,rr g,v4,v5,none]/\gh H1 H2/\H2 g=some (.dT kvs)/\R_ kvs (gone ((live ps).take i))/\kvs.length<=(gone ((live ps).take i)).length
 refine⟨_,rfl,l,rfl,⟨_,gC.of (s2 l _ ha)⟩,iV (K:=K) (a:=l) (xs:=as.map V.ref) Jv
  ⟨none,none,[],rfl,s2,b_,(λx=>rfl),XU _⟩ (by rintro _ _ _ _ ⟨_,_,_,_,s3,_⟩;exact gC.of (s3 l _ ha)) ?_ ?_⟩
 ·rintro i v Z H2 hx ⟨v4,v5,kvs,rfl,s3,h1,h2,h3⟩
  obtain⟨b,hb,rfl⟩:=j_ hx
  obtain⟨p,hp,dx,vf,pu,cu,vo,g1,g2,g3,⟨cs,g4,Sq⟩,g5⟩:=ic pl hb
  have e:gone ((live ps).take (i+1))=gone ((live ps).take i)++p.jt:=by rw[take_snoc hp,IP]
  have hsz:(gone ((live ps).take i)++p.jt).length<=4000:=by rw[<-e];exact(YT.sub (acy _ _)).jt
  rw[YN] at hsz
  have Ms:=aau Sq
  let Jv:=λ(j:Nat) (Z:St) (H3:Hp)=>∃(v5:Option V)(kvs:List (List Key×V)),Z=[rr a,rs f,rr l,rr g,rr b,v5,none]/\gh H1 H3/\H3 g=some (.dT kvs)/\R_ kvs (gone ((live ps).take i)++p.jt.take j)/\kvs.length<=(gone ((live ps).take i)).length+j
  refine⟨_,rfl,b,A.g_,dx,_,_,rfl,s3 _ _ g1,O.jn,O.jP,E5,cu,rfl,⟨_,gC.of (s3 _ _ g4)⟩,iV (K:=K) (a:=cu) (xs:=cs) Jv
   ⟨v5,kvs,rfl,s3,h1,by rw[abU,aaZ];exact h2,by omega⟩ (by rintro _ _ _ _ ⟨_,_,_,s4,_⟩;exact gC.of (s4 cu _ g4)) ?_ ?_⟩
  ·rintro j v Z H3 hx ⟨v5,kvs,rfl,s4,h1,h2,h3⟩
   obtain⟨n,hn,t,rfl,ht⟩:=ic Sq hx
   have hj:j<cs.length:=(List.getElem?_eq_some_iff.mp hx).1
   refine⟨_,rfl,_,rfl,g,_,rfl,nE.t (k:=nk n) h1 (s4 _ _ ht) (aby (m:=4000) (by omega) (by decide)),?_⟩
   have hlk:=jr kvs (nk n) (V.bl true)
   refine⟨_,_,rfl,s4.upd hg,b_,?_,by omega⟩
   rw[take_snoc hn,<-aa4]
   exact h2.put n _
  ·rintro Z H3 ⟨v5,kvs,rfl,s4,h1,h2,h3⟩
   rw[Ms,aaD] at h2
   rw[Ms] at h3
   exact⟨_,v5,kvs,rfl,s4,h1,by rw[e];exact h2,by rw[e,YN];exact h3⟩
 ·rintro Z H2 ⟨v4,v5,kvs,rfl,s3,h1,h2,h3⟩
  rw[O4,hlen,aaD] at h2
  refine⟨_,rfl,_,rfl,l,live ps,f,rfl,O5.same s3,YT,λp H3 s4 pq ⟨YU,h3a,h3p⟩=>?_⟩
  have hlp:YU.length=(gm (live ps) f).length:=aau h3p
  have hbound:YU.length<=4000:=by rw[hlp];exact aam (qL _ _) YT.ix
  refine⟨p,rfl,⟨_,gC.of h3a⟩,jE (K:=K) (a:=p) (xs:=YU.map V.ref) (by rw[O4];exact aam hbound (by decide)) (λi ys Z H4=>∃(v6:Option V)(ls:List Addr),Z=[rr a,rs f,rr l,rr g,v4,v5,v6]/\H4=H3/\ys=ls.map V.ref/\ls.length<=i/\Paired (mH A H3) ls (((gm (live ps) f).take i).filter λl=>l.nm∉gone (live ps)))
   ⟨none,[],rfl,rfl,rfl,XU _,.nil⟩ (by rintro _ _ _ _ _ ⟨_,ls,_,e,e2,e3,_⟩;subst e e2;exact⟨gC.of h3a,by rw[O4];exact e3⟩) ?_ ?_⟩
  ·rintro i v ys Z H4 hx ⟨v6,ls,rfl,rfl,rfl,e3,h6⟩
   obtain⟨b,hb,rfl⟩:=j_ hx
   obtain⟨ln,tP,dx,vn,vu,vl,k1,⟨t,rfl,k2⟩,k3,k4⟩:=ic h3p hb
   refine⟨_,rfl,b,A.gH,dx,_,_,rfl,k1,O.iL,O.gF,iY,_,rfl,g,_,rfl,i6.t (k:=nk ln.nm) (s4 _ _ h1) k2,_,rfl,?_⟩
   rw[h2 ln.nm,take_snoc tP,aaH]
   by_cases hm:ln.nm∈gone (live ps)
   ·rw[XZ hm]
    refine jg ⟨_,ls,rfl,rfl,rfl,by omega,?_⟩
    rw[aai (by simpa using hm),aa2,aaZ]
    exact h6
   ·rw[aap hm]
    refine lK ⟨_,rfl,_,ls++[b],rfl,rfl,by rw[aaG];rfl,OH,?_⟩
    rw[YR (by simpa using hm),aa2]
    exact ij h6 ⟨dx,.ref t,vu,vl,k1,⟨t,rfl,k2⟩,k3,k4⟩
  ·rintro ys Z H4 ⟨v6,ls,rfl,rfl,rfl,e3,h6⟩ p2 A7
   rw[O4,hlp,aaD] at h6
   have s5:=((s1.trans s3).trans s4).new (o:=.lst (ls.map V.ref)) A7
   refine q p2 _ s5 (((s1.trans s3).trans s4).free A7) ⟨ls,b_,?_⟩
   exact Paired.i4 h6 λ_ _ z=>z.same ((gh.refl H4).new A7)
theorem p7{Z:Type}[DecidableEq Z](kvs:List (Z×V))(k:Z)(v:V):(putK kvs k v).map (·.1)=if k∈kvs.map (·.1) then kvs.map (·.1) else kvs.map (·.1)++[k]:=by
 unfold putK
 by_cases h:k∈kvs.map (·.1)
 ·have h':(kvs.any λkv=>decide (kv.1=k))=true:=by
   obtain⟨p,hp,e⟩:=List.mem_map.mp h
   exact List.any_eq_true.mpr ⟨p,hp,XZ e⟩
  rw[aax h',aax h,List.map_map]
  refine ab5 λp _=>?_
  show(if p.1=k then(p.1,v) else p).1=p.1
  split<;>rfl
 ·have h':¬(kvs.any λkv=>decide (kv.1=k))=true:=λz=>by
   obtain⟨p,hp,e⟩:=List.any_eq_true.mp z
   exact h (List.mem_map.mpr ⟨p,hp,aaA e⟩)
  rw[aav h',aav h,aaG]
  rfl
theorem tG{Z:Type}[DecidableEq Z]{kvs:List (Z×V)}{k:Z}:(iN kvs k).isSome=true↔k∈kvs.map (·.1):=by
 induction kvs with
 | nil=>exact⟨(λz=>by cases z),(λz=>by cases z)⟩
 | cons p r ih=>
  by_cases e:p.1=k
  ·rw[ji e,aaK,e];exact⟨λ_=>aaC,λ_=>rfl⟩
  ·rw[ja e,ih,aaK]
   exact⟨λm=>aal _ m,λz=>(aag.mp z).elim (λz=>absurd z.symm e) id⟩
theorem E6{Z:Type}[DecidableEq Z]{kvs:List (Z×V)}{k:Z}(h:k∉kvs.map (·.1)):iN kvs k=none:=by
 cases e:iN kvs k with
 | none=>rfl
 | some v=>exact absurd (tG.mp (by rw[e];rfl)) h
theorem sJ{n:Nm}{l:List Nm}:nk n∈l.map nk↔n∈l:=by
 constructor
 ·intro h
  obtain⟨m,hm,e⟩:=List.mem_map.mp h
  rw[<-o7 e];exact hm
 ·exact λh=>aae h
def Bj(H:Hp)(a:Addr)(l:List Nm):Prop:=∃dk,H a=some (.dT dk)/\dk.map (·.1)=l.map nk
noncomputable def oq(l:List Nm)(m:Nm):List Nm:=if m∈l then l else l++[m]
theorem sL{l:List Nm}{m x:Nm}:x∈oq l m↔x∈l\/x=m:=by
 unfold oq
 split
 ·rename_i h
  exact⟨.inl,λz=>z.elim id λz=>z▸h⟩
 ·simp
theorem zg{l:List Nm}{m:Nm}(h:l.Nodup):(oq l m).Nodup:=by
 unfold oq
 split
 ·exact h
 ·rename_i hm
  rw[abh]
  exact⟨h,by simp,λa ha b hb z=>hm (by rw[XS.mp hb] at z;exact z▸ha)⟩
theorem E7{l:List Nm}{m:Nm}:(oq l m).length<=l.length+1:=by
 unfold oq
 split
 ·omega
 ·rw[YN];exact XU _
theorem vW{dk:List (List Key×V)}{l:List Nm}(h:dk.map (·.1)=l.map nk)(m:Nm)(v:V):(putK dk (nk m) v).map (·.1)=(oq l m).map nk:=by
 rw[p7,h]
 unfold oq
 by_cases e:m∈l
 ·rw[aax (sJ.mpr e),aax e]
 ·rw[aav (λz=>e (sJ.mp z)),aav e,aaG];rfl
noncomputable def zk(ns:List Nm)(ds:List Addr):List (List Key×V):=List.zipWith (λn d=>(nk n,V.ref d)) ns ds
theorem Hy:∀{ns:List Nm} {ds:List Addr} (n:Nm) (d:Addr),ns.length=ds.length->zk (ns++[n]) (ds++[d])=zk ns ds++[(nk n,V.ref d)]
 | [],[],_,_,_=>rfl
 | [],_::_,_,_,h=>by simp at h
 | _::_,[],_,_,h=>by simp at h
 | x::r,y::t,n,d,h=>by
  show(nk x,V.ref y)::zk (r++[n]) (t++[d])=_
  rw[Hy n d (by simpa using h)]
  rfl
theorem C6:∀{ns:List Nm} {ds:List Addr},ns.length=ds.length->(zk ns ds).map (·.1)=ns.map nk
 | [],[],_=>rfl
 | [],_::_,h=>by simp at h
 | _::_,[],h=>by simp at h
 | x::r,y::t,h=>by
  show nk x::(zk r t).map (·.1)=nk x::r.map nk
  rw[C6 (by simpa using h)]
noncomputable def tO:List Nm->List Addr->Nm->Addr
 | x::r,d::t,n=>if x=n then d else tO r t n
 | _,_,_=>0
theorem KY:∀{ns:List Nm} {ds:List Addr} {n:Nm},ns.length=ds.length->n∈ns->iN (zk ns ds) (nk n)=some (.ref (tO ns ds n))
 | [],_,_,_,hn=>by cases hn
 | _::_,[],_,h,_=>by simp at h
 | x::r,y::t,n,h,hn=>by
  show iN ((nk x,V.ref y)::zk r t) (nk n)=some (.ref (if x=n then y else tO r t n))
  by_cases e:x=n
  ·subst e
   rw[ji rfl,aax rfl]
  ·have hr:n∈r:=(aag.mp hn).elim (λz=>absurd z.symm e) id
   rw[ja (λz=>e (o7 z)),KY (by simpa using h) hr,aav e]
theorem C7:∀{ns:List Nm} {ds:List Addr} {n:Nm},ns.length=ds.length->n∈ns->tO ns ds n∈ds
 | [],_,_,_,hn=>by cases hn
 | _::_,[],_,h,_=>by simp at h
 | x::r,y::t,n,h,hn=>by
  show(if x=n then y else tO r t n)∈y::t
  by_cases e:x=n
  ·rw[aax e];exact aaC
  ·rw[aav e]
   exact aal _ (C7 (by simpa using h) ((aag.mp hn).elim (λz=>absurd z.symm e) id))
theorem KZ:∀{ns:List Nm} {ds:List Addr} {n m:Nm},ns.length=ds.length->ds.Nodup->n∈ns->m∈ns->tO ns ds n=tO ns ds m->n=m
 | [],_,_,_,_,_,hn,_,_=>by cases hn
 | _::_,[],_,_,h,_,_,_,_=>by simp at h
 | x::r,y::t,n,m,h,nd,hn,hm,e=>by
  have hl:r.length=t.length:=by simpa using h
  rw[aa8] at nd
  have e:(if x=n then y else tO r t n)=(if x=m then y else tO r t m):=e
  by_cases e1:x=n
  ·by_cases e2:x=m
   ·exact e1.symm.trans e2
   ·rw[aax e1,aav e2] at e
    exact absurd (e▸C7 hl ((aag.mp hm).elim (λz=>absurd z.symm e2) id)) nd.1
  ·have Sg:=(aag.mp hn).elim (λz=>absurd z.symm e1) id
   by_cases e2:x=m
   ·rw[aav e1,aax e2] at e
    exact absurd (e▸C7 hl Sg) nd.1
   ·rw[aav e1,aav e2] at e
    exact KZ hl nd.2 Sg ((aag.mp hm).elim (λz=>absurd z.symm e2) id) e
structure X8(H:Hp)(p:Addr)(ns:List Nm)(ad:Nm->Addr)(sf:Nm->List Nm):Prop where
 at_:∃kvs,H p=some (.dT kvs)/\(∀n∈ns,iN kvs (nk n)=some (.ref (ad n)))/\kvs.map (·.1)=ns.map nk
 inj:∀n∈ns,∀m∈ns,ad n=ad m->n=m
 ks:∀n∈ns,Bj H (ad n) (sf n)
theorem Np{ls:List Ln}{l:Ln}{m n:Nm}:Sa (ls++[l]) m n↔Sa ls m n\/(l.nm=n/\l.up=some m)\/(l.nm=m/\l.lo=some n):=by
 unfold Sa
 constructor
 ·rintro⟨x,hx,q⟩
  rcases aak.mp hx with h|h
  ·exact .inl ⟨x,h,q⟩
  ·rw[XS.mp h] at q;exact .inr q
 ·rintro(⟨x,hx,q⟩|q)
  ·exact⟨x,aaI _ hx,q⟩
  ·exact⟨l,by simp,q⟩
def TU(A:Ad):Sp:=λvs H Q _=>∃(a:Addr)(ls:List Ln),vs=[.ref a]/\oj A H a ls/\xp ls.length/\(ls.map (·.nm)).Nodup/\qp ls/\
 ∀p H' ad sf,gh H H'->H p=none->(∀n∈ls.map (·.nm),H (ad n)=none)->X8 H' p (ls.map (·.nm)) ad sf->(∀n,(sf n).Nodup/\∀m,m∈sf n↔Sa ls m n)->Q (.ref p) H'
theorem vX(T:Txt mg)(O:Ok K mg A):ig P w K mg base mK 1 A.pR A.pS ["lines"] (TU A):=by
 refine O.sx.f.rA kB λju A0 outer s H vs Q E hr h=>?_
 obtain⟨a,ls,rfl,⟨as,ha,pa⟩,jM,nd,cl,q⟩:=h
 have hlen:=aau pa
 refine⟨_,(de (k7 1 kB mE)
   (de (iD aaM rfl (ie (pv 0)) (tL 2 kB) (fR (jB (by exact iT hr) (pv 1) (gA (pv 2) rfl) mE rfl)))
   (de (iD aaM rfl (ie (pv 0)) (tL 2 kB) (de (qk (ip (jv (s_ (gA (pv 2) rfl))) (fR (jB (by exact iT hr) (zO hr (pv 1) (gA (pv 2) rfl)) (gA (pv 2) rfl) kc rfl)) hU))
   (fR (ip (jv (s_ (gA (pv 2) rfl))) (fR (jB (by exact iT hr) (zO hr (pv 1) (gA (pv 2) rfl)) (gA (pv 2) rfl) kc rfl)) hU))))
   (fR (hG (pv 1)))))),?_⟩
 refine OE ?_;intro _ _ _
 intro p hp
 have s1:gh H (upd H p (.dT [])):=(gh.refl H).new hp
 dsimp only [l7];refine Jz ?_;intro _
 let Jv:=λ(i:Nat) (Z:St) (H2:Hp)=>∃(v:Option V)(ds:List Addr),Z=[rr a,rr p,v]/\gh H H2/\H2 p=some (.dT (zk ((ls.take i).map (·.nm)) ds))/\ds.length=((ls.take i).map (·.nm)).length/\ds.Nodup/\(∀d∈ds,H d=none/\d≠p/\H2 d=some (.dT []))
 refine⟨_,rfl,a,rfl,⟨_,gC.of (s1 a _ ha)⟩,iV (K:=K) (a:=a) (xs:=as.map V.ref) Jv
  ⟨none,[],rfl,s1,b_,rfl,abt,λd hd=>by cases hd⟩ (by rintro _ _ _ _ ⟨_,_,_,s3,_⟩;exact gC.of (s3 a _ ha)) ?_ ?_⟩
 ·rintro i v Z H2 hx ⟨v0,ds,rfl,s3,h1,h2,h3,h4⟩
  obtain⟨b,hb,rfl⟩:=j_ hx
  obtain⟨l,hl,dx,vn,vu,vl,g1,⟨t,rfl,g2⟩,g3,g4⟩:=ic pa hb
  have hi:i<ls.length:=(List.getElem?_eq_some_iff.mp hl).1
  intro d hd
  have s4:gh H (upd H2 d (.dT [])):=s3.new hd
  have YV:d≠p:=λz=>by rw[z,h1] at hd;cases hd
  have Mt:d∉ds:=λz=>by rw[(h4 d z).2.2] at hd;cases hd
  have NZ:upd H2 d (.dT []) p=some (.dT (zk ((ls.take i).map (·.nm)) ds)):=by rw[d_ YV.symm];exact h1
  have AK:l.nm∉(ls.take i).map (·.nm):=λz=>by
   have e2:(ls.map (·.nm)).take i=(ls.take i).map (·.nm):=List.map_take.symm
   rw[<-e2] at z
   obtain⟨j,hj,e⟩:=aaT.mp z |>.imp λj h=>(⟨(List.getElem?_eq_some_iff.mp h).1,h⟩:j<((ls.map (·.nm)).take i).length/\((ls.map (·.nm)).take i)[j]?=some l.nm)
   have Jt:j<i:=by rw[aaO] at hj;omega
   rw[ab_,aax Jt] at e
   have e3:(ls.map (·.nm))[i]?=some l.nm:=by rw[aan,hl];rfl
   have:=(abR (List.getElem?_eq_some_iff.mp e).1 nd).mp (e.trans e3.symm)
   omega
  refine⟨_,rfl,_,rfl,b,A.gH,dx,_,_,rfl,s4 _ _ g1,O.iL,O.gF,iY,p,_,rfl,nE.t (k:=nk l.nm) NZ (s4 _ _ g2) ?_,?_⟩
  ·have:(zk ((ls.take i).map (·.nm)) ds).length<=ds.length:=by unfold zk;rw[List.length_zipWith];exact Nat.min_le_right _ _
   rw[h2,O4,aaO] at this
   exact aby (m:=4000) (by have:xp ls.length:=jM;unfold xp at this;omega) (by decide)
  ·have e:putK (zk ((ls.take i).map (·.nm)) ds) (nk l.nm) (V.ref d)=zk ((ls.take (i+1)).map (·.nm)) (ds++[d]):=by
    rw[take_snoc hl,aaG]
    show _=zk (_++[l.nm]) _
    rw[Hy _ _ h2.symm]
    refine Er _ ?_
    exact E6 (by rw[C6 h2.symm];exact λz=>AK (sJ.mp z))
   rw[e]
   refine⟨_,ds++[d],rfl,s4.upd hp,b_,?_,?_,?_⟩
   ·rw[take_snoc hl,aaG,YN,YN,h2];rfl
   ·rw[abh]
    exact⟨h3,by simp,λx hx y hy z=>Mt (by rw[XS.mp hy] at z;exact z▸hx)⟩
   ·intro x hx
    rcases aak.mp hx with hx|hx
    ·obtain⟨k1,k2,k3⟩:=h4 x hx
     refine⟨k1,k2,?_⟩
     rw[d_ k2,d_ (λz=>by rw[z] at hx;exact Mt hx)]
     exact k3
    ·rw[XS.mp hx]
     exact⟨s3.free hd,YV,by rw[d_ YV];exact b_⟩
 ·rintro Z H2 ⟨v0,ds,rfl,s3,h1,h2,h3,h4⟩
  have el:(as.map V.ref).length=ls.length:=by rw[O4];exact hlen
  rw[el,aaD] at h1 h2
  have WB:=h2.symm
  have Dy:∀n∈ls.map (·.nm),iN (zk (ls.map (·.nm)) ds) (nk n)=some (.ref (tO (ls.map (·.nm)) ds n)):=λn hn=>KY WB hn
  have N7:∀n∈ls.map (·.nm),∀m∈ls.map (·.nm),tO (ls.map (·.nm)) ds n=tO (ls.map (·.nm)) ds m->n=m:=λn hn m hm e=>KZ WB h3 hn hm e
  have yI:∀n∈ls.map (·.nm),H (tO (ls.map (·.nm)) ds n)=none/\tO (ls.map (·.nm)) ds n≠p/\H2 (tO (ls.map (·.nm)) ds n)=some (.dT []):=λn hn=>h4 _ (C7 WB hn)
  generalize tO (ls.map (·.nm)) ds=ad at Dy N7 yI
  have O6:=C6 WB
  generalize zk (ls.map (·.nm)) ds=kvs at h1 Dy O6
  dsimp only [l7];refine Jz ?_;intro _
  let Jv:=λ(i:Nat) (Z:St) (H3:Hp)=>∃(v:Option V)(sf:Nm->List Nm),Z=[rr a,rr p,v]/\gh H H3/\H3 p=some (.dT kvs)/\(∀n∈ls.map (·.nm),Bj H3 (ad n) (sf n))/\∀n,(sf n).Nodup/\(sf n).length<=2*i/\∀m,m∈sf n↔Sa (ls.take i) m n
  refine⟨_,rfl,a,rfl,⟨_,gC.of (s3 a _ ha)⟩,iV (K:=K) (a:=a) (xs:=as.map V.ref) Jv
   ⟨v0,λ_=>[],rfl,s3,h1,λn hn=>⟨[],(yI n hn).2.2,rfl⟩,λn=>⟨abt,aaY _,λm=>⟨(λz=>by cases z),λ⟨x,hx,_⟩=>by rw[abU] at hx;cases hx⟩⟩⟩ (by rintro _ _ _ _ ⟨_,_,_,s3,_⟩;exact gC.of (s3 a _ ha)) ?_ ?_⟩
  ·rintro i v Z H3 hx ⟨v1,sf,rfl,s4,k1,k2,k3⟩
   obtain⟨b,hb,rfl⟩:=j_ hx
   obtain⟨l,hl,dx,vn,vu,vl,g1,⟨t,rfl,g2⟩,g3,g4⟩:=ic pa hb
   have hi:i<ls.length:=(List.getElem?_eq_some_iff.mp hl).1
   have hi4:i<4000:=aaR hi jM
   have tP:l.nm∈ls.map (·.nm):=aae (XY hl)
   have step:∀{H3:Hp} {sf:Nm->List Nm} {n m:Nm},gh H H3->H3 p=some (.dT kvs)->(∀n∈ls.map (·.nm),Bj H3 (ad n) (sf n))->n∈ls.map (·.nm)->∀dk,H3 (ad n)=some (.dT dk)->dk.map (·.1)=(sf n).map nk->
     gh H (upd H3 (ad n) (.dT (putK dk (nk m) (V.bl true))))/\upd H3 (ad n) (.dT (putK dk (nk m) (V.bl true))) p=some (.dT kvs)/\(∀x∈ls.map (·.nm),Bj (upd H3 (ad n) (.dT (putK dk (nk m) (V.bl true)))) (ad x) (if x=n then oq (sf n) m else sf x)):=λ{H3 sf n m} s4 k1 k2 hn dk hdk YW=>by
    refine⟨s4.upd (yI n hn).1,by rw[d_ (yI n hn).2.1.symm];exact k1,λx hx=>?_⟩
    by_cases e:x=n
    ·subst e
     rw[aax rfl]
     exact⟨_,b_,vW YW m _⟩
    ·rw[aav e]
     obtain⟨Rt,e1,e2⟩:=k2 x hx
     exact⟨Rt,by rw[d_ (λz=>e (N7 x hx n hn z))];exact e1,e2⟩
   have WC:∀m n,Sa (ls.take (i+1)) m n↔Sa (ls.take i) m n\/(l.nm=n/\l.up=some m)\/(l.nm=m/\l.lo=some n):=λm n=>by rw[take_snoc hl];exact Np
   refine⟨λZ H4=>∃sf:Nm->List Nm,Z=[rr a,rr p,rr b]/\gh H H4/\H4 p=some (.dT kvs)/\(∀n∈ls.map (·.nm),Bj H4 (ad n) (sf n))/\∀n,(sf n).Nodup/\(sf n).length<=2*i+1/\∀m,m∈sf n↔Sa (ls.take i) m n\/(l.nm=n/\l.up=some m),?_,?_⟩
   ·refine⟨_,rfl,b,A.gH,dx,_,_,rfl,s4 _ _ g1,O.iL,O.iF,GB,_,rfl,?_⟩
    cases hu:l.up with
    | none=>
     rw[hu] at g3
     rw[show vu=V.jc from g3]
     exact⟨sf,rfl,s4,k1,k2,λn=>⟨(k3 n).1,by have:=(k3 n).2.1;omega,λm=>by rw[(k3 n).2.2 m];exact⟨.inl,λz=>z.elim id λz=>by cases z.2⟩⟩⟩
    | some u=>
     rw[hu] at g3
     obtain⟨tu,rfl,gu⟩:=(show lI H vu u from g3)
     obtain⟨dk,e1,e2⟩:=k2 l.nm tP
     have hdl:dk.length=(sf l.nm).length:=by have:=abd List.length e2;rwa [O4,O4] at this
     refine⟨_,rfl,_,rfl,b,A.gH,dx,_,_,rfl,s4 _ _ g1,O.iL,O.gF,iY,p,.ref (ad l.nm),rfl,?_,_,rfl,b,A.gH,dx,_,_,rfl,s4 _ _ g1,O.iL,O.iF,GB,ad l.nm,_,rfl,nE.t (k:=nk u) e1 (s4 _ _ gu) (aby (m:=8000) (by have:=(k3 l.nm).2.1;omega) (by decide)),?_⟩
     ·have:=i6.t (k:=nk l.nm) k1 (s4 _ _ g2)
      rw[Dy _ tP] at this
      exact this
     ·obtain⟨z1,z2,z3⟩:=step (m:=u) s4 k1 k2 tP dk e1 e2
      refine⟨λx=>if x=l.nm then oq (sf l.nm) u else sf x,rfl,z1,z2,z3,λn=>?_⟩
      obtain⟨y1,y2,y3⟩:=k3 n
      show(if n=l.nm then oq (sf l.nm) u else sf n).Nodup/\(if n=l.nm then oq (sf l.nm) u else sf n).length<=_/\∀m,m∈(if n=l.nm then oq (sf l.nm) u else sf n)↔_
      by_cases e:n=l.nm
      ·subst e
       rw[aax rfl]
       have:=E7 (l:=sf l.nm) (m:=u)
       refine⟨zg y1,by omega,λm=>?_⟩
       rw[sL,y3 m]
       exact⟨λz=>z.elim .inl λz=>.inr ⟨rfl,by rw[z]⟩,λz=>z.elim .inl λz=>.inr (aaE z.2).symm⟩
      ·rw[aav e]
       refine⟨y1,by omega,λm=>?_⟩
       rw[y3 m]
       exact⟨.inl,λz=>z.elim id λz=>absurd z.1.symm e⟩
   ·rintro Z H4 ⟨HX,rfl,s5,k4,k5,k6⟩
    have fin:∀(Ru:Nm->List Nm)(n:Nm),((Ru n).Nodup/\(Ru n).length<=2*i+2/\∀m,m∈Ru n↔(Sa (ls.take i) m n\/(l.nm=n/\l.up=some m))\/(l.nm=m/\l.lo=some n))->(Ru n).Nodup/\(Ru n).length<=2*(i+1)/\∀m,m∈Ru n↔Sa (ls.take (i+1)) m n:=λRu n ⟨z1,z2,z3⟩=>
     ⟨z1,by omega,λm=>by rw[z3 m,WC m n,or_assoc]⟩
    refine⟨_,rfl,b,A.gH,dx,_,_,rfl,s5 _ _ g1,O.iL,O.iG,GD,_,rfl,?_⟩
    cases hu:l.lo with
    | none=>
     rw[hu] at g4
     rw[show vl=V.jc from g4]
     refine⟨_,HX,rfl,s5,k4,k5,λn=>fin HX n ⟨(k6 n).1,by have:=(k6 n).2.1;omega,λm=>?_⟩⟩
     rw[(k6 n).2.2 m,hu]
     exact⟨.inl,λz=>z.elim id λz=>by cases z.2⟩
    | some d=>
     have Mt:d∈ls.map (·.nm):=(cl l (XY hl)).2 d hu
     rw[hu] at g4
     obtain⟨td,rfl,gd⟩:=(show lI H vl d from g4)
     obtain⟨dk,e1,e2⟩:=k5 d Mt
     have hdl:dk.length=(HX d).length:=by have:=abd List.length e2;rwa [O4,O4] at this
     refine⟨_,rfl,_,rfl,b,A.gH,dx,_,_,rfl,s5 _ _ g1,O.iL,O.iG,GD,p,.ref (ad d),rfl,?_,_,rfl,b,A.gH,dx,_,_,rfl,s5 _ _ g1,O.iL,O.gF,iY,ad d,_,rfl,nE.t (k:=nk l.nm) e1 (s5 _ _ g2) (aby (m:=8001) (by have:=(k6 d).2.1;omega) (by decide)),?_⟩
     ·have:=i6.t (k:=nk d) k4 (s5 _ _ gd)
      rw[Dy _ Mt] at this
      exact this
     ·obtain⟨z1,z2,z3⟩:=step (m:=l.nm) s5 k4 k5 Mt dk e1 e2
      refine⟨_,λx=>if x=d then oq (HX d) l.nm else HX x,rfl,z1,z2,z3,λn=>fin (λx=>if x=d then oq (HX d) l.nm else HX x) n ?_⟩
      obtain⟨y1,y2,y3⟩:=k6 n
      show(if n=d then oq (HX d) l.nm else HX n).Nodup/\(if n=d then oq (HX d) l.nm else HX n).length<=_/\∀m,m∈(if n=d then oq (HX d) l.nm else HX n)↔_
      by_cases e:n=d
      ·subst e
       rw[aax rfl]
       have:=E7 (l:=HX n) (m:=l.nm)
       refine⟨zg y1,by omega,λm=>?_⟩
       rw[sL,y3 m,hu]
       exact⟨λz=>z.elim .inl λz=>.inr ⟨z.symm,rfl⟩,λz=>z.elim .inl λz=>.inr z.1.symm⟩
      ·rw[aav e]
       refine⟨y1,by omega,λm=>?_⟩
       rw[y3 m,hu]
       exact⟨.inl,λz=>z.elim id λz=>absurd (aaE z.2).symm e⟩
  ·rintro Z H3 ⟨v1,sf,rfl,s4,k1,k2,k3⟩
   rw[O4,hlen] at k3
   exact⟨_,rfl,q p _ ad sf s4 hp (λn hn=>(yI n hn).1) ⟨⟨kvs,k1,Dy,O6⟩,N7,k2⟩ λn=>⟨(k3 n).1,λm=>by rw[(k3 n).2.2 m,aaD]⟩⟩
theorem lI.upd{H:Hp}{v:V}{n:Nm}{x:Addr}{o o':HO}(h:lI H v n)(hx:H x=some o')(ht:∀xs,o'≠.tup xs):lI (L2.upd H x o) v n:=by
 obtain⟨t,e,YO⟩:=h
 exact⟨t,e,by rw[d_ (iS YO hx (λz=>ht _ z.symm))];exact YO⟩
theorem sM{dk:List (List Key×V)}{l:List Nm}(h:dk.map (·.1)=l.map nk):dk.length=l.length:=by
 have:=abd List.length h
 rwa [O4,O4] at this
theorem E8{dk:List (List Key×V)}{l:List Nm}(h:dk.map (·.1)=l.map nk){i:Nat}{k:List Key}{v:V}(hi:dk[i]?=some (k,v)):∃n,l[i]?=some n/\k=nk n:=by
 have h1:(dk.map (·.1))[i]?=some k:=by rw[aan,hi];rfl
 rw[h,aan] at h1
 obtain⟨n,e,e2⟩:=Option.map_eq_some_iff.mp h1
 exact⟨n,e,e2.symm⟩
theorem keys_has{dk:List (List Key×V)}{l:List Nm}(h:dk.map (·.1)=l.map nk)(n:Nm):(iN dk (nk n)).isSome=decide (n∈l):=by
 by_cases m:n∈l
 ·rw[XZ m];exact tG.mpr (by rw[h];exact sJ.mpr m)
 ·rw[aap m,ab2];exact λz=>m (sJ.mp (by rw[<-h];exact tG.mp z))
theorem E9:∀(more:List (List Key×V))(dk:List (List Key×V))(l r:List Nm),dk.map (·.1)=l.map nk->more.map (·.1)=r.map nk->l.Nodup->∃l':List Nm,(putAll dk more).map (·.1)=l'.map nk/\l'.Nodup/\∀m,m∈l'↔m∈l\/m∈r
 | [],dk,l,r,h1,h2,nd=>by
  have:r=[]:=by cases r with|nil=>rfl|cons _ _=>cases h2
  subst this
  exact⟨l,h1,nd,λm=>by simp⟩
 | p::t,dk,l,r,h1,h2,nd=>by
  cases r with
  | nil=>cases h2
  | cons x r=>
   rw[aaK,aaK] at h2
   injection h2 with e1 e2
   rw[rK,e1]
   obtain⟨l',z1,z2,z3⟩:=E9 t (putK dk (nk x) p.2) (oq l x) r (vW h1 x _) e2 (zg nd)
   refine⟨l',z1,z2,λm=>?_⟩
   rw[z3 m,sL,aag,or_assoc]
def QB:Sp:=λvs H Q _=>∃(d a:Addr)(xs:List Nm)(ka:List (List Key×V))(af:Nm->List Nm),vs=[.ref d,.ref a]/\Bj H d xs/\d≠a/\H a=some (.dT ka)/\(∀x∈xs,∃b,iN ka (nk x)=some (.ref b)/\b≠d/\Bj H b (af x))/\xs.length<=4000/\(∀x∈xs,(af x).length<=4000)/\
 ∀p H' rs,gh H H'->H p=none->Bj H' p rs->rs.Nodup->(∀m,m∈rs↔∃x∈xs,m=x\/m∈af x)->Q (.ref p) H'
theorem IQ(T:Txt mg)(O:Ok K mg A):ig P w K mg base mK 1 A.EW A.EY ["names","ahead"] QB:=by
 refine O.joined.f.rA xc λju A0 outer s H vs Q E hr h=>?_
 obtain⟨d,a,xs,ka,af,rfl,⟨kd,hd,hk⟩,hda,ha,hb,hx4,haf,q⟩:=h
 refine⟨_,(de (k7 2 xc mE)
   (de (za (iD aaM rfl (zM (pv 0)) (tL 3 xc) (de (jB (by exact iT hr) (pv 2) (pv 3) kc rfl)
   (fR (hV (Kv (by exact iT hr) (pv 2) (zO hr (pv 1) (pv 3)) ⟨rfl,rfl,rfl,rfl⟩))))))
   (fR (hG (pv 2))))),?_⟩
 refine FO ?_;intro _ _
 intro p hp
 have UX:p≠d:=(gg hd hp).symm
 have O7:p≠a:=(gg ha hp).symm
 refine⟨_,rfl,d,kd,rfl,by rw[d_ UX.symm];exact hd,λo uz=>?_⟩
 have JB:=sM hk
 let Jv:=λ(i:Nat) (Z:St) (H2:Hp)=>∃(v:Option V)(kf:List (List Key×V))(rs:List Nm),Z=[rr d,rr a,rr p,v]/\(∀b o,H b=some o->b≠d->H2 b=some o)/\H2 d=some (.ni o (.dT kd))/\H2 p=some (.dT kf)/\kf.map (·.1)=rs.map nk/\rs.Nodup/\kf.length<=i*4001/\∀m,m∈rs↔∃x∈xs.take i,m=x\/m∈af x
 refine BS (d:=d) (o:=o) (kvs:=kd) Jv
  ⟨none,[],[],rfl,λb o e nb=>by rw[d_ nb,d_ (gg e hp)];exact e,b_,by rw[d_ UX];exact b_,rfl,abt,by simp,λm=>by simp⟩ (by rintro _ _ _ ⟨_,_,_,_,_,e,_⟩;exact e) ?_ ?_
 ·rintro i k v t Z H2 hi ht ⟨v0,kf,rs,rfl,h1,h2,h3,h4,h5,h6,h7⟩
  obtain⟨x,hx,rfl⟩:=E8 hk hi
  have hxm:x∈xs:=XY hx
  have By:i<xs.length:=(List.getElem?_eq_some_iff.mp hx).1
  obtain⟨b,e1,e2,kb,e3,e4⟩:=hb x hxm
  have WD:b≠p:=gg e3 hp
  have O1:=sM e4
  have hb4:=haf x hxm
  have htp:t≠p:=λz=>by rw[z,h3] at ht;cases ht
  have hl:=jr kf (nk x) (V.bl true)
  have sz:sizeLine=16777216:=aaP
  have hmul:i*4001<=4000*4001:=Nat.mul_le_mul_right _ (by omega)
  refine⟨_,rfl,_,rfl,p,_,rfl,nE.t (k:=nk x) h3 ht (by omega),?_⟩
  have oa:putK kf (nk x) (V.bl true)≠[]:=λz=>by
   have:=vW h4 x (V.bl true)
   rw[z] at this
   have hm:x∈oq rs x:=sL.mpr (.inr rfl)
   cases hq:oq rs x with
   | nil=>rw[hq] at hm;cases hm
   | cons _ _=>rw[hq] at this;cases this
  refine⟨_,rfl,p,rfl,.inr ⟨_,.inl b_⟩,_,rfl,_,rfl,a,.ref b,rfl,?_,b,_,kb,rfl,b_,.inl (by rw[d_ WD];exact h1 _ _ e3 e2),WD.symm,oa,by omega,?_⟩
  ·have:=i6.t (H:=L2.upd H2 p (.dT (putK kf (nk x) (V.bl true)))) (k:=nk x) (by rw[d_ O7.symm];exact h1 a _ ha hda.symm) (b:=t) (by rw[d_ htp];exact ht)
   rw[e1] at this
   exact this
  ·obtain⟨l',z1,z2,z3⟩:=E9 kb _ (oq rs x) (af x) (vW h4 x (V.bl true)) e4 (zg h5)
   refine⟨_,_,l',rfl,λb o e nb=>?_,?_,b_,z1,z2,?_,λm=>?_⟩
   ·rw[d_ (gg e hp),d_ (gg e hp)];exact h1 b o e nb
   ·rw[d_ UX.symm,d_ UX.symm];exact h2
   ·have:=ql kb (putK kf (nk x) (V.bl true))
    have:(i+1)*4001=i*4001+4001:=Nat.succ_mul _ _
    omega
   ·rw[z3 m,sL,h7 m,take_snoc hx]
    constructor
    ·rintro((⟨y,hy,z⟩|z)|z)
     ·exact⟨y,aaI _ hy,z⟩
     ·exact⟨x,by simp,.inl z⟩
     ·exact⟨x,by simp,.inr z⟩
    ·rintro⟨y,hy,z⟩
     rcases aak.mp hy with hy|hy
     ·exact .inl (.inl ⟨y,hy,z⟩)
     ·rw[XS.mp hy] at z
      exact z.elim (λz=>.inl (.inr z)) .inr
 ·rintro Z H2 ⟨v0,kf,rs,rfl,h1,h2,h3,h4,h5,h6,h7⟩
  rw[JB,aaD] at h7
  refine⟨d,o,_,h2,uz,_,rfl,q p _ rs (λb u e=>?_) hp ⟨kf,by rw[d_ UX];exact h3,h4⟩ h5 h7⟩
  by_cases YX:b=d
  ·subst YX;rw[b_];rw[hd] at e;exact e
  ·rw[d_ YX];exact h1 b u e YX
structure o8(ls:List Ln)(H1 H:Hp)(h:Addr)(S:List Nm)(af:Nm->List Nm):Prop where
 ex:∃kvs,H h=some (.dT kvs)/\kvs.map (·.1)=S.map nk/\∀n∈S,∃b,iN kvs (nk n)=some (.ref b)/\b≠h/\H1 b=none/\Bj H b (af n)
 nd:S.Nodup
 good:∀n∈S,n∈ls.map (·.nm)/\(af n).Nodup/\∀m,m∈af n↔Ah ls m n
theorem o8.same{ls:List Ln}{H1 H H':Hp}{h:Addr}{S:List Nm}{af:Nm->List Nm}(x:o8 ls H1 H h S af)(s:gh H H'):o8 ls H1 H' h S af:=by
 obtain⟨⟨kvs,e1,e2,e3⟩,nd,g⟩:=x
 refine⟨⟨kvs,s _ _ e1,e2,λn hn=>?_⟩,nd,g⟩
 obtain⟨b,z1,z2,z3,dk,z4,z5⟩:=e3 n hn
 exact⟨b,z1,z2,z3,dk,s _ _ z4,z5⟩
theorem o8.lst{ls:List Ln}{H1 H:Hp}{h c:Addr}{S:List Nm}{af:Nm->List Nm}{xs:List V}{o:HO}(x:o8 ls H1 H h S af)(hc:H c=some (.lst xs)):o8 ls H1 (L2.upd H c o) h S af:=by
 obtain⟨⟨kvs,e1,e2,e3⟩,nd,g⟩:=x
 refine⟨⟨kvs,by rw[d_ (iS e1 hc (λz=>by cases z))];exact e1,e2,λn hn=>?_⟩,nd,g⟩
 obtain⟨b,z1,z2,z3,dk,z4,z5⟩:=e3 n hn
 exact⟨b,z1,z2,z3,dk,by rw[d_ (iS z4 hc (λz=>by cases z))];exact z4,z5⟩
theorem Hz{sf:Nm->List Nm}{B n:Nat}{st S:List Nm}(r:Run sf B n st S):st.length<=B:=by
 cases r with
 | nil=>exact aaY _
 | skip _ h _=>exact h
 | fin _ _ h _=>exact h
 | push _ _ h _=>exact h
theorem E_{Z Y:Type}{F:Z->Y->Prop}{vs:List Z}{xs:List Y}{x:Y}(p:Paired F vs (xs++[x])):∃WE v,vs=WE++[v]/\Paired F WE xs/\F v x:=by
 induction xs generalizing vs with
 | nil=>
  cases p with
  | cons f t=>cases t;exact⟨[],_,rfl,.nil,f⟩
 | cons y r ih=>
  cases p with
  | cons f t=>
   obtain⟨WE,v,rfl,h1,h2⟩:=ih t
   exact⟨_::WE,v,rfl,.cons f h1,h2⟩
def C8(H:Hp)(p:Addr)(ls:List Ln):Prop:=∃kvs,H p=some (.dT kvs)/\∀n∈ls.map (·.nm),∃b dk,iN kvs (nk n)=some (.ref b)/\H b=some (.dT dk)/\∀m,(iN dk (nk m)).isSome=true↔Ah ls m n
theorem C8.same{H H':Hp}{p:Addr}{ls:List Ln}(x:C8 H p ls)(s:gh H H'):C8 H' p ls:=by
 obtain⟨kvs,e1,e2⟩:=x
 refine⟨kvs,s _ _ e1,λn hn=>?_⟩
 obtain⟨b,dk,z1,z2,z3⟩:=e2 n hn
 exact⟨b,dk,z1,s _ _ z2,z3⟩
def TV(A:Ad):Sp:=λvs H Q _=>∃(a:Addr)(ls:List Ln),vs=[.ref a]/\oj A H a ls/\xp ls.length/\(ls.map (·.nm)).Nodup/\qp ls/\KD ls/\∀p H',gh H H'->H p=none->C8 H' p ls->Q (.ref p) H'
theorem C9(T:Txt mg)(O:Ok K mg A):ig P w K mg base mK 2 A.yc A.yd ["lines"] (TV A):=by
 have xB:=@vX P w K mg base A T O
 have LV:=@IQ P w K mg base A T O
 refine O.BY.f.rA jF λju A0 outer s H vs Q E hr h=>?_
 obtain⟨a,ls,rfl,la,jM,nd,cl,tp,q⟩:=h
 obtain⟨as,ha,pa⟩:=id la
 have hlen:=aau pa
 have y0:ls.length<=4000:=jM
 refine⟨_,(de (k7 1 jF (og O.sx xB hr (a_ (pv 0) e_)))
   (de (ly (i:=2) jF.nd rfl (Or.inr rfl) mE)
   (de (iD aaM rfl (ie (pv 0)) (tL 3 jF) (de (k7 4 jF (iB (a_ (gA (pv 3) rfl) e_)))
   (fR (Eb aaM (uW (pv 4) (λ_=>rfl)) (de (k7 5 jF (P4 aa1 PySem.F.slot_list_pop PySem.F.type_list_pop P6 (pv 4)))
   (de (ip (jv (o3 (by exact iT hr) (pv 5) (pv 2))) (fR (Ea)) hU)
   (de (za (wK (j:=6) xX (gb oF).names [7] jF.nd rfl rfl rfl (zM (zO hr (pv 1) (pv 5))) rfl (by decide+kernel) (λ_ _ _ _=>(iu (i:=7) jF.nd rfl (Or.inl rfl))) (λ_ _ _ _=>⟨_,nM (jv (lC (by exact iT hr) (pv 7) (pv 2))),by(try simp only [kO]);rfl⟩) (λ_ _ _ _=>zb (pv 7))))
   (fR (ip (uW (pv 6) (λ_=>rfl)) (de (hV (pB aa1 aa_ aba ko (pv 4) (a_ (pv 5) e_)))
   (fR (hV (pB aa1 PySem.F.slot_list_extend PySem.F.type_list_extend BI (pv 4) (a_ (pv 6) e_))))) (fR (jB (by exact iT hr) (pv 2) (pv 5) (og O.joined LV hr (a_ (zO hr (pv 1) (pv 5)) (a_ (pv 2) e_))) rfl)))))))))))
   (fR (hG (pv 2)))))),?_⟩
 refine OE ?_;intro _ _ _
 refine⟨_,rfl,a,ls,rfl,la,jM,nd,cl,λst H1 ad sf s1 hst0 had0 uG Rv=>?_⟩
 obtain⟨⟨kst,N8,Dz,hst3⟩,N7,YW⟩:=uG
 have hN:(1+ls.length*ls.length)<=16000001:=by have:=Nat.mul_le_mul y0 y0;omega
 have sz:sizeLine=16777216:=aaP
 have UY:∀n,(sf n).length<=4000:=λn=>by
  have:=len_sub (ys:=ls.map (·.nm)) (Rv n).1 λy hy=>(cl.sa (((Rv n).2 y).mp hy)).1
  rw[O4] at this;omega
 intro h hh
 have s2:gh H1 (L2.upd H1 h (.dT [])):=(gh.refl H1).new hh
 dsimp only [l7];refine Jz ?_;intro _
 let Jv:=λ(i:Nat) (Z:St) (H2:Hp)=>∃(v3 v4 v5 v6:Option V)(S:List Nm)(af:Nm->List Nm),Z=[rr a,rr st,rr h,v3,v4,v5,v6,none]/\gh H1 H2/\o8 ls H1 H2 h S af/\∀l∈ls.take i,l.nm∈S
 refine⟨_,rfl,a,rfl,⟨_,gC.of (s2 _ _ (s1 _ _ ha))⟩,iV (K:=K) (a:=a) (xs:=as.map V.ref) Jv
  ⟨none,none,none,none,[],λ_=>[],rfl,s2,⟨⟨[],b_,rfl,λn hn=>by cases hn⟩,abt,λn hn=>by cases hn⟩,λl hl=>by rw[abU] at hl;cases hl⟩ (by rintro _ _ _ _ ⟨_,_,_,_,_,_,_,s3,_⟩;exact gC.of (s3 _ _ (s1 _ _ ha))) ?_ ?_⟩
 ·rintro i v Z H2 hx ⟨v3,v4,v5,v6,S0,af0,rfl,s3,D0,hS0⟩
  obtain⟨b,hb,rfl⟩:=j_ hx
  obtain⟨l,hl,dx,vn,vu,vl,g1,⟨t0,rfl,g2⟩,g3,g4⟩:=ic pa hb
  have tP:l.nm∈ls.map (·.nm):=aae (XY hl)
  refine⟨_,rfl,b,A.gH,dx,_,_,rfl,s3 _ _ (s1 _ _ g1),O.iL,O.gF,iY,L2.jM,λc hc=>?_⟩
  have LW:H1 c=none:=s3.free hc
  have s4:gh H1 (L2.upd H2 c (.lst [.ref t0])):=s3.new hc
  obtain⟨n0,r0⟩:=KG cl tp Rv l.nm S0
  refine⟨λm Z H3=>∃(v5 v6:Option V)(sk S:List Nm)(af:Nm->List Nm)(cv:List V),Z=[rr a,rr st,rr h,rr b,rr c,v5,v6,none]/\Run sf (1+ls.length*ls.length) m sk S/\gh H1 H3/\H3 c=some (.lst cv)/\Paired (lI H3) cv sk.reverse/\o8 ls H1 H3 h S af/\(∀y∈sk,y∈ls.map (·.nm))/\(l.nm∈sk\/l.nm∈S)/\(∀y∈S0,y∈S),
   ⟨n0,v5,v6,[l.nm],S0,af0,[.ref t0],rfl,r0,s4,b_,.cons ⟨t0,rfl,s4 _ _ (s1 _ _ g2)⟩ .nil,D0.same ((gh.refl H2).new hc),λy hy=>by rw[XS.mp hy];exact tP,.inl (by simp),λ_ z=>z⟩,?_⟩
  rintro m Z H3 ⟨v5,v6,sk,S,af,cv,rfl,run,s5,Rw,YY,D,YZ,G2,hS⟩
  cases sk with
  | nil=>
   have:cv=[]:=by cases YY;rfl
   subst this
   refine⟨_,rfl,false,.inl ⟨_,gC.of Rw,rfl⟩,jg ?_⟩
   refine⟨_,_,_,_,S,af,rfl,s5,D,λy hy=>?_⟩
   rw[take_snoc hl] at hy
   rcases aak.mp hy with hy|hy
   ·exact hS _ (hS0 y hy)
   ·rw[XS.mp hy]
    exact G2.elim (λz=>by cases z) id
  | cons x sk=>
   rw[acB] at YY
   obtain⟨JC,vx,rfl,UZ,t,rfl,ht⟩:=E_ YY
   have WG:x∈ls.map (·.nm):=YZ x aaC
   have U0:∀y∈sk,y∈ls.map (·.nm):=λy hy=>YZ y (aal _ hy)
   have Ms:JC.length=sk.length:=by have:=aau UZ;rwa [abE] at this
   refine⟨_,rfl,true,.inl ⟨_,gC.of Rw,by simp⟩,lK ?_⟩
   obtain⟨n,hn,run'⟩:∃n,m=n+1/\(x∈S/\Run sf (1+ls.length*ls.length) n sk S\/x∉S/\EF sf S x=[]/\Run sf (1+ls.length*ls.length) n sk (S++[x])\/x∉S/\EF sf S x≠[]/\Run sf (1+ls.length*ls.length) n ((EF sf S x).reverse++x::sk) S):=by
    cases run with
    | skip z1 _ z2=>exact⟨_,rfl,.inl ⟨z1,z2⟩⟩
    | fin z1 z2 _ z3=>exact⟨_,rfl,.inr (.inl ⟨z1,z2,z3⟩)⟩
    | push z1 z2 _ z3=>exact⟨_,rfl,.inr (.inr ⟨z1,z2,z3⟩)⟩
   have Ws:sk.length+1<=16000001:=by have:=Hz run;rw[aah] at this;omega
   subst hn
   refine⟨λZ H4=>∃(v5 v6:Option V)(sk S:List Nm)(af:Nm->List Nm)(cv:List V),Z=[rr a,rr st,rr h,rr b,rr c,v5,v6,none]/\Run sf (1+ls.length*ls.length) n sk S/\gh H1 H4/\H4 c=some (.lst cv)/\Paired (lI H4) cv sk.reverse/\o8 ls H1 H4 h S af/\(∀y∈sk,y∈ls.map (·.nm))/\(l.nm∈sk\/l.nm∈S)/\(∀y∈S0,y∈S),λZ' H' z=>⟨n,acC n,z⟩,?_⟩
   refine⟨_,rfl,.inl ⟨rfl,_,gC.of Rw⟩,c,_,.ref t,rfl,rfl,Rw,by simp,?_⟩
   rw[List.dropLast_concat]
   have D4:o8 ls H1 (L2.upd H3 c (.lst JC)) h S af:=D.lst Rw
   have s6:gh H1 (L2.upd H3 c (.lst JC)):=s5.upd LW
   have p4:Paired (lI (L2.upd H3 c (.lst JC))) JC sk.reverse:=Paired.i4 UZ λ_ _ z=>z.upd Rw (λ_ z=>by cases z)
   have Sr:L2.upd H3 c (.lst JC) t=some (nT x):=by rw[d_ (iS ht Rw (λz=>by cases z))];exact ht
   have Ss:L2.upd H3 c (.lst JC) c=some (.lst JC):=b_
   generalize L2.upd H3 c (.lst JC)=H4 at D4 s6 p4 Sr Ss ⊢
   obtain⟨⟨kvs,e1,e2,e3⟩,Rx,good⟩:=id D4
   refine⟨_,rfl,_,rfl,h,_,rfl,i6.t (k:=nk x) e1 Sr,_,rfl,?_⟩
   rw[keys_has e2 x]
   rcases run' with⟨Su,r⟩|O8
   ·rw[XZ Su]
    refine lK ⟨_,_,sk,S,af,JC,rfl,r,s6,Ss,p4,D4,U0,?_,hS⟩
    exact G2.elim (λz=>(aag.mp z).elim (λz=>.inr (z▸Su)) .inl) .inr
   ·have Su:x∉S:=O8.elim (·.1) (·.1)
    rw[aap Su]
    refine jg ?_
    obtain⟨dk,Y0,hd2⟩:=YW x WG
    have Y1:=s6 _ _ Y0
    have U1:ad x≠h:=gg Y0 hh
    refine⟨_,rfl,_,rfl,st,.ref (ad x),rfl,?_,ad x,dk,rfl,Y1,λo uz=>?_⟩
    ·have:=i6.t (k:=nk x) (s6 _ _ N8) Sr
     rw[Dz x WG] at this
     exact this
    have Y2:∀{y:Addr} {u:HO},y≠ad x->H4 y=some u->L2.upd H4 (ad x) (.ni o (.dT dk)) y=some u:=λny e=>by rw[d_ ny];exact e
    refine Kr (d:=ad x) (o:=o) (kvs:=dk) (by rw[sM hd2];exact aam (UY x) (by decide)) (λi ys Z H5=>∃(v7:Option V),Z=[rr a,rr st,rr h,rr b,rr c,rr t,v6,v7]/\H5=L2.upd H4 (ad x) (.ni o (.dT dk))/\ys.length<=i/\Paired (lI (L2.upd H4 (ad x) (.ni o (.dT dk)))) ys (((sf x).take i).filter λy=>y∉S))
     ⟨none,rfl,rfl,XU _,.nil⟩ (by rintro _ _ _ _ ⟨_,_,e,e4,_⟩;subst e;exact⟨b_,e4⟩) ?_ ?_
    ·rintro i k v tb ys Z H5 hi Y3 ⟨v7,rfl,rfl,e4,e5⟩
     obtain⟨y,hy,rfl⟩:=E8 hd2 hi
     refine⟨_,rfl,_,rfl,h,_,rfl,i6.t (k:=nk y) (Y2 U1.symm e1) Y3,_,rfl,?_⟩
     rw[keys_has e2 y,take_snoc hy,aaH]
     by_cases hm:y∈S
     ·rw[XZ hm]
      refine jg ⟨_,rfl,rfl,by omega,?_⟩
      rw[aai (by simpa using hm),aa2,aaZ]
      exact e5
     ·rw[aap hm]
      refine lK ⟨_,rfl,_,rfl,rfl,OH,?_⟩
      rw[YR (by simpa using hm),aa2]
      exact ij e5 ⟨tb,rfl,Y3⟩
    ·rintro ys Z H5 ⟨v7,rfl,rfl,e4,e5⟩ p hp
     rw[sM hd2,aaD] at e5
     have O7:p≠ad x:=λz=>by rw[z,b_] at hp;cases hp
     have U2:H4 p=none:=by rw[d_ O7] at hp;exact hp
     refine⟨ad x,o,_,by rw[d_ O7.symm];exact b_,uz,?_⟩
     rw[CI Y1 O7]
     have pm:Paired (lI H4) ys (EF sf S x):=Paired.i4 e5 λv y ⟨tb,e,z⟩=>⟨tb,e,by
      have:tb≠ad x:=λw=>by rw[w,b_] at z;cases z
      rwa [d_ this] at z⟩
     have s7:gh H4 (L2.upd H4 p (.lst ys)):=(gh.refl H4).new U2
     have Sv:ys.length=(EF sf S x).length:=aau pm
     refine⟨_,rfl,!ys.isEmpty,.inl ⟨_,gC.of b_,rfl⟩,?_⟩
     rcases O8 with⟨_,WH,r⟩|⟨_,WH,r⟩
     ·
      have:ys=[]:=aaQ.mp (by rw[Sv,WH];rfl)
      subst this
      refine jg ?_
      have wo:=CL.mp WH
      refine⟨_,rfl,_,rfl,st,.ref (ad x),rfl,?_,_,rfl,ad x,h,sf x,kvs,af,rfl,⟨dk,s7 _ _ Y1,hd2⟩,U1,s7 _ _ e1,λy hy=>?_,UY x,λy hy=>?_,λp2 H6 rs s8 A7 U3 nd2 hm2=>?_⟩
      ·have:=i6.t (k:=nk x) (s7 _ _ (s6 _ _ N8)) (s7 _ _ Sr)
       rw[Dz x WG] at this
       exact this
      ·obtain⟨bb,z1,z2,z3,Rt,z4,z5⟩:=e3 y (wo y hy)
       exact⟨bb,z1,(gg Y0 z3).symm,Rt,s7 _ _ z4,z5⟩
      ·obtain⟨z1,z2,z3⟩:=good y (wo y hy)
       have:=len_sub (ys:=ls.map (·.nm)) z2 λm hm=>(cl.ah ((z3 m).mp hm)).1
       rw[O4] at this;omega
      ·have s9:=s7.trans s8
       have hSl:S.length<=4000:=by
        have:=len_sub (ys:=ls.map (·.nm)) Rx λm hm=>(good m hm).1
        rw[O4] at this;omega
       have e6:H6 h=some (.dT kvs):=s9 _ _ e1
       refine⟨_,rfl,_,rfl,h,_,rfl,nE.t (k:=nk x) e6 (s9 _ _ Sr) (by rw[sM e2];omega),?_⟩
       have U4:p2≠h:=(gg (s7 _ _ e1) A7).symm
       have Y4:H1 p2=none:=(s6.trans s7).free A7
       have key:putK kvs (nk x) (V.ref p2)=kvs++[(nk x,V.ref p2)]:=Er _ (E6 (by rw[e2];exact λz=>Su (sJ.mp z)))
       have hhT:H1 h=none:=hh
       refine⟨_,_,sk,S++[x],λy=>if y=x then rs else af y,JC,rfl,r,(s6.trans s9).upd hhT,?_,?_,⟨⟨_,b_,?_,λy hy=>?_⟩,?_,λy hy=>?_⟩,U0,?_,λy hy=>aaI _ (hS y hy)⟩
       ·rw[d_ (iS (s9 _ _ Ss) e6 (λz=>by cases z))];exact s9 _ _ Ss
       ·exact Paired.i4 p4 λ_ _ z=>(z.same s9).upd e6 (λ_ z=>by cases z)
       ·rw[key,aaG,e2,aaG];rfl
       ·show ∃bb,iN (putK kvs (nk x) (V.ref p2)) (nk y)=some (V.ref bb)/\bb≠h/\H1 bb=none/\Bj _ bb (if y=x then rs else af y)
        rw[ke]
        by_cases e:y=x
        ·subst e
         rw[aax rfl,aax rfl]
         obtain⟨Rt,w1,w2⟩:=U3
         exact⟨p2,rfl,U4,Y4,Rt,by rw[d_ U4];exact w1,w2⟩
        ·rw[aav (λz=>e (o7 z)),aav e]
         have hyS:y∈S:=(aak.mp hy).elim id λz=>absurd (XS.mp z) e
         obtain⟨bb,z1,z2,z3,Rt,z4,z5⟩:=e3 y hyS
         exact⟨bb,z1,z2,z3,Rt,by rw[d_ z2];exact s9 _ _ z4,z5⟩
       ·rw[abh]
        exact⟨Rx,by simp,λu hu w hw z=>Su (by rw[XS.mp hw] at z;have z:u=x:=z;exact z▸hu)⟩
       ·show y∈ls.map (·.nm)/\(if y=x then rs else af y).Nodup/\∀m,m∈(if y=x then rs else af y)↔Ah ls m y
        by_cases e:y=x
        ·subst e
         rw[aax rfl]
         refine⟨WG,nd2,λm=>?_⟩
         rw[hm2 m,Ah.last]
         constructor
         ·rintro⟨u,hu,z⟩
          have WC:=((Rv y).2 u).mp hu
          rcases z with z|z
          ·exact .inl (z▸WC)
          ·exact .inr ⟨u,((good u (wo u hu)).2.2 m).mp z,WC⟩
         ·rintro(z|⟨u,z1,z2⟩)
          ·exact⟨m,((Rv y).2 m).mpr z,.inl rfl⟩
          ·have hu:=((Rv y).2 u).mpr z2
           exact⟨u,hu,.inr (((good u (wo u hu)).2.2 m).mpr z1)⟩
        ·rw[aav e]
         exact good y ((aak.mp hy).elim id λz=>absurd (XS.mp z) e)
       ·exact G2.elim (λz=>(aag.mp z).elim (λz=>.inr (by rw[z];simp)) .inl) λz=>.inr (aaI _ z)
     ·
      have O9:(!ys.isEmpty)=true:=by
       cases ys with
       | nil=>exact absurd (aaQ.mp Sv.symm) WH
       | cons _ _=>rfl
      refine Kh O9 ?_
      have Dx:=Hz r
      rw[YN,abE,aah] at Dx
      have WI:=s7 _ _ Ss
      refine⟨_,rfl,.inl ⟨rfl,_,gC.of WI⟩,_,rfl,c,_,_,rfl,rfl,WI,by omega,?_⟩
      have hpc:p≠c:=(gg Ss U2).symm
      refine⟨_,rfl,.inl ⟨rfl,_,gC.of b_⟩,_,rfl,c,p,_,_,rfl,rfl,b_,by rw[d_ hpc];exact b_,by rw[YN];show JC.length+1+ys.length<=_;omega,?_⟩
      refine⟨_,_,(EF sf S x).reverse++x::sk,S,af,_,rfl,r,((s6.trans s7).upd LW).upd LW,b_,?_,((D4.same s7).lst WI).lst b_,λy hy=>?_,?_,hS⟩
      ·rw[List.reverse_append,List.reverse_reverse,acB]
       refine Paired.i4 (F:=lI (L2.upd H4 p (.lst ys))) (uD (ij (Paired.i4 p4 λ_ _ z=>z.same s7) ⟨t,rfl,s7 _ _ Sr⟩) (Paired.i4 pm λ_ _ z=>z.same s7)) λ_ _ z=>?_
       exact(z.upd WI (λ_ z=>by cases z)).upd b_ (λ_ z=>by cases z)
      ·rcases aak.mp hy with hy|hy
       ·have hy:=(aao.mp (List.mem_reverse.mp hy)).1
        exact(cl.sa (((Rv x).2 y).mp hy)).1
       ·exact YZ y hy
      ·exact G2.elim (λz=>.inl (aaW _ z)) .inr
 ·rintro Z H2 ⟨v3,v4,v5,v6,S,af,rfl,s3,⟨⟨kvs,e1,e2,e3⟩,Rx,good⟩,hS⟩
  rw[O4,hlen,aaD] at hS
  refine⟨_,rfl,q h _ (s1.trans s3) (s1.free hh) ⟨kvs,e1,λn hn=>?_⟩⟩
  obtain⟨l,hl,rfl⟩:=List.mem_map.mp hn
  obtain⟨bb,z1,z2,z3,dk,z4,z5⟩:=e3 _ (hS l hl)
  exact⟨bb,dk,z1,z4,λm=>by rw[tG,z5,sJ];exact(good _ (hS l hl)).2.2 m⟩
theorem K0{Z:Type}[DecidableEq Z]:∀{kvs:List (Z×V)} {i:Nat} {k:Z} {v:V},(kvs.map (·.1)).Nodup->kvs[i]?=some (k,v)->iN kvs k=some v
 | [],_,_,_,_,h=>by simp at h
 | p::r,i,k,v,nd,h=>by
  rw[aaK,aa8] at nd
  cases i with
  | zero=>simp at h;subst h;exact ji rfl
  | succ i=>
   have h:r[i]?=some (k,v):=by simpa using h
   have hm:k∈r.map (·.1):=List.mem_map.mpr ⟨_,XY h,rfl⟩
   rw[ja (λz=>nd.1 (by rw[z];exact hm))]
   exact K0 nd.2 h
theorem K1{Z:Type}[DecidableEq Z](kvs:List (Z×V))(k j:Z)(h:j≠k):iN (jV kvs k) j=iN kvs j:=by
 induction kvs with
 | nil=>rfl
 | cons p r ih=>
  by_cases e:p.1=k
  ·rw[wH e,ih,ja (λz=>h (z.symm.trans e))]
  ·rw[wI e]
   by_cases e2:p.1=j
   ·rw[ji e2,ji e2]
   ·rw[ja e2,ja e2,ih]
theorem IS{kvs:List (List Key×V)}{rem:List Ln}{n:Nm}(h:kvs.map (·.1)=rem.map λl=>nk l.nm):(jV kvs (nk n)).map (·.1)=(rem.filter λo=>o.nm≠n).map λl=>nk l.nm:=by
 induction kvs generalizing rem with
 | nil=>cases rem with|nil=>rfl|cons _ _=>cases h
 | cons p r ih=>
  cases rem with
  | nil=>cases h
  | cons x t=>
   rw[aaK,aaK] at h
   injection h with h1 h2
   by_cases e:x.nm=n
   ·rw[wH (by rw[h1,e]),aai (by simpa using e)]
    exact ih h2
   ·rw[wI (λz=>e (o7 (h1.symm.trans z))),YR (by simpa using e),aaK,aaK,ih h2,h1]
structure Wait(kw:List (List Key×V))(rem:List Ln)(f:Ln->Nat):Prop where
 keys:kw.map (·.1)=rem.map λl=>nk l.nm
 val:∀o∈rem,iN kw (nk o.nm)=some (.int (f o:Nat))
theorem Wait.len{kw:List (List Key×V)}{rem:List Ln}{f:Ln->Nat}(w:Wait kw rem f):kw.length=rem.length:=by
 have:=abd List.length w.keys
 rwa [O4,O4] at this
theorem QC{rem:List Ln}:(rem.map λl=>nk l.nm)=(rem.map (·.nm)).map nk:=by rw[List.map_map];rfl
theorem TX{xs:List Nm}(h:xs.Nodup):(xs.map nk).Nodup:=by
 induction xs with
 | nil=>exact abt
 | cons x r ih=>
  rw[aa8] at h
  rw[aaK,aa8]
  exact⟨λz=>h.1 (sJ.mp z),ih h.2⟩
theorem Wait.nd{kw:List (List Key×V)}{rem:List Ln}{f:Ln->Nat}(w:Wait kw rem f)(h:(rem.map (·.nm)).Nodup):(kw.map (·.1)).Nodup:=by rw[w.keys,QC];exact TX h
theorem Wait.get{kw:List (List Key×V)}{rem:List Ln}{f:Ln->Nat}(w:Wait kw rem f)(h:(rem.map (·.nm)).Nodup){i:Nat}{k:List Key}{v:V}(hi:kw[i]?=some (k,v)):∃o,rem[i]?=some o/\k=nk o.nm/\v=.int (f o:Nat):=by
 have h1:(kw.map (·.1))[i]?=some k:=by rw[aan,hi];rfl
 rw[w.keys,aan] at h1
 obtain⟨o,e,e2⟩:=Option.map_eq_some_iff.mp h1
 refine⟨o,e,e2.symm,?_⟩
 have h2:=K0 (w.nd h) hi
 rw[<-e2,w.val o (XY e)] at h2
 exact(aaE h2).symm
def X_:Sp:=λvs H Q _=>∃(d:Addr)(kw:List (List Key×V))(rem:List Ln)(f:Ln->Nat)(l:Ln),vs=[.ref d]/\H d=some (.dT kw)/\Wait kw rem f/\(rem.map (·.nm)).Nodup/\rem.find? (λo=>f o ==0)=some l/\∀t,H t=some (nT l.nm)->Q (.ref t) H
theorem Bk(T:Txt mg)(O:Ok K mg A):ig P w K mg base mK 1 A.vG A.vH ["waiting"] X_:=by
 refine O.Am.f.rA tV λju A0 outer s H vs Q E hr h=>?_
 obtain⟨d,kw,rem,f,l,rfl,hd,W,nd,hf,q⟩:=h
 refine⟨_,(de (za (iD aaM rfl (zM (pv 0)) (tL 1 tV) (fR (ip (hX mB (zO hr (pv 0) (pv 1)) f_ (iA _)) (fR (hG (pv 1))) hU))))
   (fR (hG ui))),?_⟩
 refine Mm ?_;intro _
 refine⟨_,rfl,d,kw,rfl,hd,λo uz=>?_⟩
 let Jv:=λ(i:Nat) (Z:St) (H2:Hp)=>∃(v:Option V),Z=[rr d,v]/\H2=L2.upd H d (.ni o (.dT kw))/\(rem.drop i).find? (λo=>f o ==0)=some l
 refine BS (d:=d) (o:=o) (kvs:=kw) Jv ⟨none,rfl,rfl,hf⟩ (by rintro _ _ _ ⟨_,_,e,_⟩;subst e;exact b_) ?_ ?_
 ·rintro i k v t Z H2 hi ht ⟨v0,rfl,rfl,h1⟩
  obtain⟨x,hx,rfl,rfl⟩:=W.get nd hi
  have j3:i<rem.length:=(List.getElem?_eq_some_iff.mp hx).1
  have hdr:rem.drop i=x::rem.drop (i+1):=by rw[aa6 j3];congr 1;exact(List.getElem?_eq_some_iff.mp hx).2
  rw[hdr] at h1
  refine⟨_,rfl,_,rfl,d,_,rfl,.inr ⟨kw,nk x.nm,t,.inr ⟨o,b_⟩,rfl,ht,(W.val x (XY hx)).symm⟩,rfl,_,rfl,?_⟩
  refine kZ (λh=>?_) (λh=>?_)
  ·have h:f x=0:=by have:=V.int.inj (aaA h);omega
   rw[List.find?_cons_of_pos (by simpa using h)] at h1
   cases h1
   refine⟨_,rfl,d,o,_,b_,uz,?_⟩
   rw[wQ hd]
   exact q t (by
    have:t≠d:=λz=>by rw[z,b_] at ht;cases ht
    rwa [d_ this] at ht)
  ·have h:¬f x=0:=λz=>h (XZ (by rw[z];rfl))
   rw[List.find?_cons_of_neg (by simpa using h)] at h1
   exact⟨_,rfl,rfl,h1⟩
 ·rintro Z H2 ⟨v0,rfl,rfl,h1⟩
  rw[W.len,acE] at h1
  cases h1
end
section
open Classical
noncomputable def ou(lt:Nm->Nm->Prop)(rem:List Ln)(l:Ln):Nat:=(rem.filter λo=>decide (lt o.nm l.nm)).length
theorem K2(lt:Nm->Nm->Prop)(rem:List Ln):(λo=>ou lt rem o ==0)=free lt rem:=by
 funext o
 unfold ou free
 rw[abn,acn,aaQ,List.filter_eq_nil_iff,aaS]
 exact⟨λh x hx=>by simpa using h x hx,λh x hx=>by simpa using h x hx⟩
theorem K3{lt:Nm->Nm->Prop}{rem:List Ln}(nd:(rem.map (·.nm)).Nodup){l:Ln}(hl:l∈rem)(o:Ln):ou lt rem o=ou lt (rem.filter λx=>x.nm≠l.nm) o+if lt l.nm o.nm then 1 else 0:=by
 unfold ou
 induction rem with
 | nil=>cases hl
 | cons x r ih=>
  rw[aaK,aa8] at nd
  rcases aag.mp hl with rfl|hl
  ·have e:r.filter (λx=>decide (x.nm≠l.nm))=r:=List.filter_eq_self.mpr λy hy=>XZ λz=>nd.1 (z▸aae hy)
   rw[aai (p:=λx:Ln=>decide (x.nm≠l.nm)) (by simp),e]
   by_cases h:lt l.nm o.nm
   ·rw[YR (by simpa using h),aax h,aah]
   ·rw[aai (by simpa using h),aav h,Nat.add_zero]
  ·have hx:x.nm≠l.nm:=λz=>nd.1 (z▸aae hl)
   rw[YR (p:=λx:Ln=>decide (x.nm≠l.nm)) (by simpa using hx)]
   by_cases h:lt x.nm o.nm
   ·rw[YR (by simpa using h),YR (by simpa using h),aah,aah,ih nd.2 hl];omega
   ·rw[aai (by simpa using h),aai (by simpa using h),ih nd.2 hl]
end
theorem K4{lt:Nm->Nm->Prop}{n:Nat}{rem:List Ln}{l:Ln}(h:rem.find? (free lt rem)=some l):q8 lt (n+1) rem=l::q8 lt n (rem.filter λo=>o.nm≠l.nm):=by
 rw[q8,h]
section
variable{P:Program}{w:World}{K:Qqy}{mg:Qqx}{base:Heap}{A:Ad}
def TY(A:Ad):Sp:=λvs H Q _=>∃(a h:Addr)(ls al:List Ln),vs=[.ref a,.ref h]/\oj A H a ls/\C8 H h al/\xp ls.length/\(ls.map (·.nm)).Nodup/\(∀l∈ls,l.nm∈al.map (·.nm))/\KD al/\
 ∀p H',gh H H'->H p=none->oj A H' p (rowOf (Ah al) ls)->Q (.ref p) H'
theorem IT(T:Txt mg)(O:Ok K mg A):ig P w K mg base mK 2 A.EZ A.E1 ["lines","ahead"] (TY A):=by
 have DA:=@Bk P w K mg base A T O
 refine O.KR.f.rA lE λju A0 outer s H vs Q E hr h=>?_
 obtain⟨a,h,ls,al,rfl,⟨as,ha,pa⟩,⟨kh,O_,hh2⟩,jM,nd,Bz,tp,q⟩:=h
 have hlen:=aau pa
 have y0:ls.length<=4000:=jM
 have sz:sizeLine=16777216:=aaP
 have tpl:∃rk:Nm->Nat,∀m n,Ah al m n->rk m<rk n:=by obtain⟨rk,r⟩:=tp;exact⟨rk,λm n z=>r.ah z⟩
 refine⟨_,(de (k7 2 lE mE)
   (de (k7 3 lE mE)
   (de (iD aaM rfl (ie (pv 0)) (iu (i:=4) lE.nd rfl (Or.inr rfl)) (de (jB (by exact iT hr) (pv 2) (gA (pv 4) rfl) (pv 4) rfl)
   (fR (jB (by exact iT hr) (pv 3) (gA (pv 4) rfl) (gz gq (by rfl) T.jx aaL (a_ (zE EJ (gb vq).names [7] rfl (ie (pv 0)) rfl (by decide+kernel) (λ_ _ _ _=>(iu (i:=7) lE.nd rfl (Or.inl rfl))) (λ_ _ _ _=>⟨_,nM (jv (o3 (by exact iT hr) (gA (pv 7) rfl) (zO hr (pv 1) (gA (pv 4) rfl)))),by(try simp only [kO]);rfl⟩) (λ_ _ _ _=>zb (pv 7))) e_)) rfl))))
   (de (k7 5 lE (iB e_))
   (de (Eb aaM (IG (pv 3) (λ_=>rfl)) (de (k7 6 lE (og O.Am DA hr (a_ (pv 3) e_)))
   (de (hV (Kx (by exact iT hr) (pv 3) (pv 6) ⟨rfl,rfl,rfl,rfl⟩))
   (de (hV (pB aa1 aa_ aba ko (pv 5) (a_ (zO hr (pv 2) (pv 6)) e_)))
   (fR (iD aaM rfl (ie (wG (yO rfl) (by rfl) T.xl ab7 (a_ (pv 3) e_))) (tL 7 lE) (fR (ip (jv (o3 (by exact iT hr) (pv 6) (zO hr (pv 1) (pv 7)))) (fR (jB (by exact iT hr) (pv 3) (pv 7) (gp Ct (zO hr (pv 3) (pv 7)) f_) rfl)) hU))))))))
   (fR (hG (pv 5)))))))),?_⟩
 refine R7 ?_;intro _ _ _ _ _
 intro bn U5 wt Sw
 have s1:gh H (L2.upd (L2.upd H bn (.dT [])) wt (.dT [])):=((gh.refl H).new U5).new Sw
 have Ry:H wt=none:=((gh.refl H).new (o:=.dT []) U5).free Sw
 have U6:bn≠wt:=λz=>by rw[z,b_] at Sw;cases Sw
 dsimp only [l7];refine Jz ?_;intro _
 let Jv:=λ(i:Nat) (Z:St) (H2:Hp)=>∃(v4:Option V)(kb kw:List (List Key×V)),Z=[rr a,rr h,rr bn,rr wt,v4,none,none,none]/\gh H H2/\H2 bn=some (.dT kb)/\H2 wt=some (.dT kw)/\kb.length<=i/\(∀l∈ls.take i,∃b,iN kb (nk l.nm)=some (.ref b)/\mH A H b l)/\Wait kw (ls.take i) (ou (Ah al) ls)
 refine⟨_,rfl,a,rfl,⟨_,gC.of (s1 _ _ ha)⟩,iV (K:=K) (a:=a) (xs:=as.map V.ref) Jv
  ⟨none,[],[],rfl,s1,by rw[d_ U6];exact b_,b_,XU _,(λl hl=>by rw[abU] at hl;cases hl),⟨rfl,(λl hl=>by rw[abU] at hl;cases hl)⟩⟩ (by rintro _ _ _ _ ⟨_,_,_,_,s3,_⟩;exact gC.of (s3 _ _ ha)) ?_ ?_⟩
 ·rintro i v Z H2 hx ⟨v4,kb,kw,rfl,s3,h1,h2,h3,h4,W⟩
  obtain⟨b,hb,rfl⟩:=j_ hx
  obtain⟨l,hl,dx,vn,vu,vl,g1,⟨t,rfl,g2⟩,g3,g4⟩:=ic pa hb
  have WJ:l∈ls:=XY hl
  have hi:i<ls.length:=(List.getElem?_eq_some_iff.mp hl).1
  have AK:∀x∈ls.take i,x.nm≠l.nm:=λx hx z=>by
   obtain⟨j,hj⟩:=aaT.mp hx
   have Jt:j<i:=by have:=(List.getElem?_eq_some_iff.mp hj).1;rw[aaO] at this;omega
   rw[ab_,aax Jt] at hj
   have e1:(ls.map (·.nm))[j]?=some l.nm:=by rw[aan,hj,<-z];rfl
   have e2:(ls.map (·.nm))[i]?=some l.nm:=by rw[aan,hl];rfl
   have:=(abR (List.getElem?_eq_some_iff.mp e1).1 nd).mp (e1.trans e2.symm)
   omega
  obtain⟨bb,dk,z1,z2,z3⟩:=hh2 l.nm (Bz l WJ)
  have N5:=jr kb (nk l.nm) (V.ref b)
  refine⟨_,rfl,_,rfl,_,rfl,b,A.gH,dx,_,_,rfl,s3 _ _ g1,O.iL,O.gF,iY,bn,_,rfl,nE.t (k:=nk l.nm) h1 (s3 _ _ g2) (by omega),?_⟩
  have s4:gh H (L2.upd H2 bn (.dT (putK kb (nk l.nm) (V.ref b)))):=s3.upd U5
  have NZ:L2.upd H2 bn (.dT (putK kb (nk l.nm) (V.ref b))) bn=some (.dT (putK kb (nk l.nm) (V.ref b))):=b_
  have WK:L2.upd H2 bn (.dT (putK kb (nk l.nm) (V.ref b))) wt=some (.dT kw):=by rw[d_ U6.symm];exact h2
  generalize L2.upd H2 bn (.dT (putK kb (nk l.nm) (V.ref b)))=H3 at s4 NZ WK ⊢
  refine⟨_,rfl,a,rfl,⟨_,gC.of (s4 _ _ ha)⟩,jE (K:=K) (a:=a) (xs:=as.map V.ref) (by rw[O4,hlen];omega) (λj ys Z H4=>∃v7:Option V,Z=[rr a,rr h,rr bn,rr wt,rr b,none,none,v7]/\H4=H3/\ys.length=ou (Ah al) (ls.take j) l)
   ⟨none,rfl,rfl,rfl⟩ (by rintro _ _ _ _ _ ⟨_,_,e,e2⟩;subst e;exact⟨gC.of (s4 _ _ ha),by rw[e2];unfold ou;exact aam (aaX _ _) (by rw[aaO];omega)⟩) ?_ ?_⟩
  ·rintro j v ys Z H4 hx ⟨v7,rfl,rfl,e2⟩
   obtain⟨b2,JD,rfl⟩:=j_ hx
   obtain⟨l2,FQ,dx2,vn2,vu2,vl2,k1,⟨t2,rfl,k2⟩,k3,k4⟩:=ic pa JD
   refine⟨_,rfl,b2,A.gH,dx2,_,_,rfl,s4 _ _ k1,O.iL,O.gF,iY,_,rfl,_,rfl,b,A.gH,dx,_,_,rfl,s4 _ _ g1,O.iL,O.gF,iY,h,.ref bb,rfl,?_,bb,_,rfl,i6.t (k:=nk l2.nm) (s4 _ _ z2) (s4 _ _ k2),_,rfl,?_⟩
   ·have:=i6.t (k:=nk l.nm) (s4 _ _ O_) (s4 _ _ g2)
    rw[z1] at this
    exact this
   ·unfold ou at e2 ⊢
    rw[take_snoc FQ,aaH,YN]
    by_cases hm:Ah al l2.nm l.nm
    ·rw[(z3 l2.nm).mpr hm]
     refine lK ⟨_,rfl,_,rfl,rfl,?_⟩
     rw[YR (by simpa using hm),aa2,YN,e2];rfl
    ·rw[ab2.mpr λz=>hm ((z3 l2.nm).mp z)]
     refine jg ⟨_,rfl,rfl,?_⟩
     rw[aai (by simpa using hm),aa2,e2];rfl
  ·rintro ys Z H4 ⟨v7,rfl,rfl,e2⟩ p hp
   rw[O4,hlen,aaD] at e2
   have s5:=s4.new (o:=.lst ys) hp
   have OX:=W.len
   rw[aaO] at OX
   refine⟨p,_,rfl,.inl (gC.of b_),_,rfl,_,rfl,b,A.gH,dx,_,_,rfl,s5 _ _ g1,O.iL,O.gF,iY,wt,_,rfl,nE.t (k:=nk l.nm) (hZ hp WK) (s5 _ _ g2) (by omega),?_⟩
   refine⟨_,_,_,rfl,s5.upd Ry,by rw[d_ U6];exact hZ hp NZ,b_,by omega,λx hx=>?_,⟨?_,λx hx=>?_⟩⟩
   ·rw[take_snoc hl] at hx
    rcases aak.mp hx with hx|hx
    ·obtain⟨c,c1,c2⟩:=h4 x hx
     exact⟨c,by rw[ke,aav (λz=>AK x hx (o7 z))];exact c1,c2⟩
    ·rw[XS.mp hx]
     exact⟨b,by rw[ke,aax rfl],dx,_,vu,vl,g1,⟨t,rfl,g2⟩,g3,g4⟩
   ·rw[p7,W.keys,take_snoc hl,aaG]
    exact aav λz=>by
     obtain⟨x,hx,e⟩:=List.mem_map.mp z
     exact AK x hx (o7 e)
   ·rw[take_snoc hl] at hx
    rw[ke]
    rcases aak.mp hx with hx|hx
    ·rw[aav (λz=>AK x hx (o7 z))];exact W.val x hx
    ·rw[XS.mp hx,aax rfl,e2]
 ·rintro Z H2 ⟨v4,kb,kw,rfl,s3,h1,h2,h3,h4,W⟩
  have el:(as.map V.ref).length=ls.length:=by rw[O4];exact hlen
  rw[el,aaD] at h4 W
  refine⟨L2.jM,λr tJ=>?_⟩
  have hrH:H r=none:=s3.free tJ
  have hrb:bn≠r:=gg h1 tJ
  have U7:wt≠r:=gg h2 tJ
  obtain⟨rk,LS⟩:=tpl
  refine⟨λm Z H3=>∃(v6 v7:Option V)(kw:List (List Key×V))(rem row:List Ln)(rs:List Addr),m=rem.length/\Z=[rr a,rr h,rr bn,rr wt,v4,rr r,v6,v7]/\gh H H3/\H3 bn=some (.dT kb)/\H3 wt=some (.dT kw)/\H3 r=some (.lst (rs.map V.ref))/\Paired (mH A H) rs row/\Wait kw rem (ou (Ah al) rem)/\rem.Sublist ls/\row.length+rem.length=ls.length/\row++q8 (Ah al) rem.length rem=rowOf (Ah al) ls,
   ⟨ls.length,none,none,kw,ls,[],[],rfl,rfl,s3.new tJ,hZ tJ h1,hZ tJ h2,b_,.nil,W,aaU _,by simp,rfl⟩,?_⟩
  rintro m Z H3 ⟨v6,v7,kw,rem,row,rs,rfl,rfl,s4,b1,w1,r1,pr,W,sub,hsum,BA⟩
  have Sx:(rem.map (·.nm)).Nodup:=(sub.map _).nodup nd
  refine⟨_,rfl,wt,kw,rfl,w1,?_⟩
  have OX:=W.len
  cases rem with
  | nil=>
   have:kw=[]:=aaQ.mp OX
   subst this
   refine jg ⟨_,rfl,q r _ s4 hrH ⟨rs,r1,?_⟩⟩
   rw[show q8 (Ah al) ([]:List Ln).length []=[] from rfl,aaZ] at BA
   rw[<-BA]
   exact Paired.i4 pr λ_ _ z=>z.same s4
  | cons x0 Y5=>
   generalize Y6:x0::Y5=rem at *
   have oa:rem≠[]:=by rw[<-Y6];exact λz=>by cases z
   obtain⟨l,LX⟩:=rL (lt:=Ah al) LS rem oa
   have N9:l∈rem:=List.mem_of_find?_eq_some LX
   have Y7:l∈ls:=sub.subset N9
   have Pa:=l_ Sx N9
   refine Kh (by cases kw with|nil=>exact absurd (aaQ.mp OX.symm) oa|cons _ _=>rfl) ?_
   refine⟨λZ H4=>∃(v6 v7:Option V)(kw:List (List Key×V))(l6 row:List Ln)(rs:List Addr),l6.length<rem.length/\Z=[rr a,rr h,rr bn,rr wt,v4,rr r,v6,v7]/\gh H H4/\H4 bn=some (.dT kb)/\H4 wt=some (.dT kw)/\H4 r=some (.lst (rs.map V.ref))/\Paired (mH A H) rs row/\Wait kw l6 (ou (Ah al) l6)/\l6.Sublist ls/\row.length+l6.length=ls.length/\row++q8 (Ah al) l6.length l6=rowOf (Ah al) ls,
    λZ' H' ⟨u6,u7,U8,l6,N_,rs2,j3,z⟩=>⟨l6.length,j3,u6,u7,U8,l6,N_,rs2,rfl,z⟩,?_⟩
   refine⟨_,rfl,wt,kw,rem,ou (Ah al) rem,l,rfl,w1,W,Sx,by rw[K2];exact LX,λt ht=>?_⟩
   have Dy:=W.val l N9
   refine⟨_,rfl,wt,rfl,.inr ⟨_,.inl w1⟩,_,rfl,t,kw,nk l.nm,_,rfl,w1,ht,Dy,?_⟩
   have s5:gh H (L2.upd H3 wt (.dT (jV kw (nk l.nm)))):=s4.upd Ry
   have b2:L2.upd H3 wt (.dT (jV kw (nk l.nm))) bn=some (.dT kb):=by rw[d_ U6];exact b1
   have r2:L2.upd H3 wt (.dT (jV kw (nk l.nm))) r=some (.lst (rs.map V.ref)):=by rw[d_ U7.symm];exact r1
   have t2:L2.upd H3 wt (.dT (jV kw (nk l.nm))) t=some (nT l.nm):=by rw[d_ (iS ht w1 (λz=>by cases z))];exact ht
   have w2:L2.upd H3 wt (.dT (jV kw (nk l.nm))) wt=some (.dT (jV kw (nk l.nm))):=b_
   have W2:Wait (jV kw (nk l.nm)) (rem.filter λo=>o.nm≠l.nm) (ou (Ah al) rem):=⟨IS W.keys,λo ho=>by
    have qf:=aao.mp ho
    rw[K1 _ _ _ (λz=>by have:=o7 z;simpa[this] using qf.2)]
    exact W.val o qf.1⟩
   generalize L2.upd H3 wt (.dT (jV kw (nk l.nm)))=H4 at s5 b2 r2 t2 w2 ⊢
   generalize jV kw (nk l.nm)=U8 at w2 W2
   obtain⟨bl,O1,hLn⟩:=h4 l Y7
   have Y8:=aau pr
   refine⟨_,rfl,.inl ⟨rfl,_,gC.of r2⟩,_,rfl,_,rfl,bn,.ref bl,rfl,?_,r,_,_,rfl,rfl,r2,by rw[O4,Y8];omega,?_⟩
   ·have:=i6.t (k:=nk l.nm) b2 t2
    rw[O1] at this
    exact this
   have s6:gh H (L2.upd H4 r (.lst (rs.map V.ref++[V.ref bl]))):=s5.upd hrH
   have b3:L2.upd H4 r (.lst (rs.map V.ref++[V.ref bl])) bn=some (.dT kb):=by rw[d_ hrb];exact b2
   have w3:L2.upd H4 r (.lst (rs.map V.ref++[V.ref bl])) wt=some (.dT U8):=by rw[d_ U7];exact w2
   have t3:L2.upd H4 r (.lst (rs.map V.ref++[V.ref bl])) t=some (nT l.nm):=by rw[d_ (iS t2 r2 (λz=>by cases z))];exact t2
   have r3:L2.upd H4 r (.lst (rs.map V.ref++[V.ref bl])) r=some (.lst ((rs++[bl]).map V.ref)):=by rw[b_,aaG];rfl
   generalize L2.upd H4 r (.lst (rs.map V.ref++[V.ref bl]))=H5 at s6 b3 w3 t3 r3 ⊢
   have HY:(rem.filter λo=>o.nm≠l.nm).Sublist rem:=aa5
   generalize hR:(rem.filter λo=>decide (o.nm≠l.nm))=l6 at W2 HY Pa
   have U9:(l6.map (·.nm)).Nodup:=(HY.map _).nodup Sx
   refine⟨_,rfl,wt,U8,rfl,w3,λp bs hp pbs=>?_⟩
   have s7:=s6.new (o:=.lst (bs.map V.ref)) hp
   have Y9:=aau pbs
   have U3:=W2.len
   let Jv:=λ(j:Nat) (Z:St) (H6:Hp)=>∃(v7:Option V)(LY:List (List Key×V)),Z=[rr a,rr h,rr bn,rr wt,v4,rr r,rr t,v7]/\gh H H6/\H6 bn=some (.dT kb)/\H6 wt=some (.dT LY)/\H6 t=some (nT l.nm)/\H6 r=some (.lst ((rs++[bl]).map V.ref))/\H6 p=some (.lst (bs.map V.ref))/\(∀b∈bs,∀xs,H5 b=some (.tup xs)->H6 b=some (.tup xs))/\LY.map (·.1)=l6.map (λl=>nk l.nm)/\∀(i:Nat)(o:Ln),l6[i]?=some o->iN LY (nk o.nm)=some (.int ((if i<j then ou (Ah al) l6 o else ou (Ah al) rem o:Nat):Int))
   refine⟨p,rfl,⟨_,gC.of b_⟩,iV (K:=K) (a:=p) (xs:=bs.map V.ref) Jv
    ⟨v7,U8,rfl,s7,hZ hp b3,hZ hp w3,hZ hp t3,hZ hp r3,b_,λb _ xs e=>hZ hp e,W2.keys,λi o ho=>by rw[aav (by omega)];exact W2.val o (XY ho)⟩ (by rintro _ _ _ _ ⟨_,_,_,_,_,_,_,_,e,_⟩;exact gC.of e) ?_ ?_⟩
   ·rintro j v Z H6 hx ⟨v7,LY,rfl,s8,b4,w4,t4,r4,p4,Oa,Cp,LZ⟩
    obtain⟨c,hc,rfl⟩:=j_ hx
    obtain⟨⟨k,v⟩,hkv,Y_⟩:=ir pbs hc
    obtain⟨o,ho,rfl,rfl⟩:=W2.get U9 hkv
    have Rz:o∈rem:=HY.subset (XY ho)
    have Za:H6 c=some (nT o.nm):=Oa c (XY hc) _ Y_
    obtain⟨bb,dk,z1,z2,z3⟩:=hh2 o.nm (Bz o (sub.subset Rz))
    have Cn:=K3 (lt:=Ah al) Sx N9 o
    have upv:∀(U_:List (List Key×V)),U_.map (·.1)=l6.map (λl=>nk l.nm)->(∀x∈l6,x.nm≠o.nm->iN U_ (nk x.nm)=iN LY (nk x.nm))->iN U_ (nk o.nm)=some (.int ((ou (Ah al) l6 o:Nat):Int))->∀(i:Nat)(x:Ln),l6[i]?=some x->iN U_ (nk x.nm)=some (.int ((if i<j+1 then ou (Ah al) l6 x else ou (Ah al) rem x:Nat):Int)):=λU_ _ h1 h2 i x Va=>by
     by_cases e:i=j
     ·subst e
      rw[ho] at Va
      cases Va
      rw[aax (acC _)]
      exact h2
     ·have Zb:x.nm≠o.nm:=λz=>by
       have e1:(l6.map (·.nm))[i]?=some o.nm:=by rw[aan,Va,<-z];rfl
       have e2:(l6.map (·.nm))[j]?=some o.nm:=by rw[aan,ho];rfl
       exact e ((abR (List.getElem?_eq_some_iff.mp e1).1 U9).mp (e1.trans e2.symm))
      rw[h1 x (XY Va) Zb,LZ i x Va]
      by_cases Fw:i<j
      ·rw[aax Fw,aax (by omega)]
      ·rw[aav Fw,aav (by omega)]
    rw[hR] at Cn
    refine⟨_,rfl,_,rfl,_,rfl,h,.ref bb,rfl,?_,bb,_,rfl,i6.t (k:=nk l.nm) (s8 _ _ z2) t4,_,rfl,?_⟩
    ·have:=i6.t (k:=nk o.nm) (s8 _ _ O_) Za
     rw[z1] at this
     exact this
    by_cases hm:Ah al l.nm o.nm
    ·rw[(z3 l.nm).mpr hm]
     rw[aax hm] at Cn
     refine lK ?_
     have Vb:=LZ j o ho
     rw[aav (abu _)] at Vb
     have hg:i6 H6 wt (.ref c) (some (.int ((ou (Ah al) rem o:Nat):Int))):=by
      have:=i6.t (k:=nk o.nm) w4 Za
      rw[Vb] at this
      exact this
     have hk3:LY.length=l6.length:=by have:=abd List.length Cp;rwa [O4,O4] at this
     refine⟨_,rfl,_,rfl,wt,_,rfl,hg,_,_,rfl,rfl,_,rfl,_,rfl,wt,_,rfl,nE.t (k:=nk o.nm) w4 Za (by omega),?_⟩
     have kk:(putK LY (nk o.nm) (V.int ((ou (Ah al) rem o:Nat)-1))).map (·.1)=l6.map (λl=>nk l.nm):=by
      rw[p7,Cp]
      exact aax (List.mem_map.mpr ⟨o,XY ho,rfl⟩)
     refine⟨_,_,rfl,s8.upd Ry,by rw[d_ U6];exact b4,b_,by rw[d_ (iS t4 w4 (λz=>by cases z))];exact t4,by rw[d_ U7.symm];exact r4,by rw[d_ (iS p4 w4 (λz=>by cases z))];exact p4,λb hb xs e=>?_,kk,upv _ kk (λx _ Zb=>?_) ?_⟩
     ·have:=Oa b hb xs e
      rw[d_ (iS this w4 (λz=>by cases z))];exact this
     ·rw[ke,aav (λz=>Zb (o7 z))]
     ·rw[ke,aax rfl]
      have e9:((ou (Ah al) rem o:Nat):Int)-1=((ou (Ah al) l6 o:Nat):Int):=by omega
      exact abd (λz=>some (V.int z)) e9
    ·rw[ab2.mpr λz=>hm ((z3 l.nm).mp z)]
     rw[aav hm] at Cn
     refine jg ⟨_,LY,rfl,s8,b4,w4,t4,r4,p4,Oa,Cp,upv LY Cp (λx _ _=>rfl) ?_⟩
     have Vb:=LZ j o ho
     rw[aav (abu _)] at Vb
     rw[Vb,Cn,Nat.add_zero]
   ·rintro Z H6 ⟨v7,LY,rfl,s8,b4,w4,t4,r4,p4,Oa,Cp,LZ⟩
    have hlen2:(bs.map V.ref).length=l6.length:=by rw[O4,<-Y9,U3]
    refine⟨_,_,LY,l6,row++[l],rs++[bl],by omega,rfl,s8,b4,w4,r4,ij pr hLn,⟨Cp,λo ho=>?_⟩,HY.trans sub,by rw[YN];show row.length+1+l6.length=_;omega,?_⟩
    ·obtain⟨i,hi⟩:=aaT.mp ho
     have Sm:=(List.getElem?_eq_some_iff.mp hi).1
     rw[LZ i o hi,aax (by omega)]
    ·rw[<-BA,<-Pa,K4 LX,aa4,hR]
     rfl
end
end PK
namespace Kp
open PySem L2
noncomputable abbrev Wf:Stmt:=PK.o4
noncomputable abbrev Wg:Stmt:=PK.qy
noncomputable abbrev Ya:Stmt:=PK.qz
noncomputable abbrev OI:Stmt:=PK.Gz
structure Txt(mg:Qqx):Prop where
 len:mg "len"=none
 range:mg "range"=none
 max:mg "max"=none
noncomputable abbrev gk(l:List Str):List V:=l.map V.str
noncomputable def tab(old new:List Str)(i:Nat):List V:=(List.range (new.length+1)).map λj=>V.int (K01.wV old new i j)
theorem C_{old new:List Str}{i j:Nat}(h:j<=new.length):(tab old new i)[j]?=some (V.int (K01.wV old new i j)):=by
 unfold tab
 rw[aan,aci (by omega)]
 rfl
noncomputable def part(old new:List Str)(i k:Nat):List V:=(List.range (new.length+1)).map λj=>if new.length-k<=j then V.int (K01.wV old new i j) else V.int 0
theorem HA{old new:List Str}{i k j:Nat}(h:j<=new.length)(hk:new.length-k<=j):(part old new i k)[j]?=some (V.int (K01.wV old new i j)):=by
 unfold part
 rw[aan,aci (by omega)]
 show some (if _ then _ else _)=_
 rw[aax hk]
theorem As(old new:List Str)(i k:Nat):(part old new i k).length=new.length+1:=by unfold part;rw[O4,abQ]
theorem K5(old new:List Str)(i:Nat):part old new i new.length=tab old new i:=by
 unfold part tab
 refine ab5 λj _=>?_
 rw[aax (by omega)]
theorem B8(old new:List Str)(i n:Nat)(h:n=new.length+1):(List.replicate n [V.int 0]).flatten=part old new i 0:=by
 subst h
 refine List.ext_getElem? λj=>?_
 unfold part
 rw[aan]
 have e:(List.replicate (new.length+1) [V.int 0]).flatten=List.replicate (new.length+1) (V.int 0):=by
  generalize new.length+1=m
  induction m with
  | zero=>rfl
  | succ m ih=>rw[abp,acd,ih,abp];rfl
 rw[e,List.getElem?_replicate]
 by_cases hj:j<new.length+1
 ·rw[aax hj,aci hj]
  show some _=some (if _ then _ else _)
  by_cases h2:new.length-0<=j
  ·rw[aax h2,K01.zc (.inr (by omega))];rfl
  ·rw[aav h2]
 ·rw[aav hj,List.getElem?_eq_none_iff.mpr (by rw[abQ];omega)]
  rfl
theorem Fb{old new:List Str}{i k:Nat}(h:k<new.length):(part old new i k).set (new.length-1-k) (V.int (K01.wV old new i (new.length-1-k)))=part old new i (k+1):=by
 refine List.ext_getElem? λj=>?_
 by_cases e:j=new.length-1-k
 ·subst e
  rw[abz (by rw[As];omega),HA (by omega) (by omega)]
 ·rw[abI (λz=>e z.symm)]
  unfold part
  rw[aan,aan]
  by_cases hj:j<new.length+1
  ·rw[aci hj]
   show some (if _ then _ else _)=some (if _ then _ else _)
   by_cases h2:new.length-k<=j
   ·rw[aax h2,aax (by omega)]
   ·rw[aav h2,aav (by omega)]
  ·rw[List.getElem?_eq_none_iff.mpr (by rw[abQ];omega)]
   rfl
theorem j4{l:List Str}{j:Nat}{x:Str}(h:l[j]?=some x):(gk l)[j]?=some (V.str x):=by rw[aan,h];rfl
section
variable{P:Program}{w:World}{K:Qqy}{mg:Qqx}{base:Heap}
theorem QD:gw ["text","new","below","counts","second"] ["text","new","below"] (gb Wf):=⟨rfl,rfl,rfl,by decide+kernel,rfl,by decide+kernel,by decide+kernel⟩
def TZ:Sp:=λvs H Q _=>∃(old new:List Str)(i:Nat)(t:Str)(n b:Addr),vs=[.str t,.ref n,.ref b]/\old[i]?=some t/\H n=some (.lst (gk new))/\H b=some (.lst (tab old new (i+1)))/\new.length<=1000/\
 ∀p H',gh H H'->H p=none->H' p=some (.lst (tab old new i))->Q (.ref p) H'
theorem T1{f:Addr}{fd:FuncData}(F:xT K "counts_with" "counts_with" Wf f fd)(T:Txt mg):ig P w K mg base mK 1 f fd ["text","new","below"] TZ:=by
 refine F.rA QD λju A outer s H vs Q E hr h=>?_
 obtain⟨old,new,i,t,n,b,rfl,ht,hn,hb,hl,k⟩:=h
 refine⟨_,de (ly (i:=3) QD.nd rfl (Or.inl rfl) (gp Gk (iB (a_ f_ e_)) (gp iy (gz gq (by rfl) T.len aaL (a_ (pv 1) e_)) f_)))
  (de (iD aaM rfl (wL rfl T.range (a_ (gp Ct (gz gq (by rfl) T.len aaL (a_ (pv 1) e_)) f_) (a_ (xO rF f_) (a_ (xO rF f_) e_)))) (iu (i:=4) QD.nd rfl (Or.inl rfl))
   (fR (ip (hX mB (jq kL (pv 1) (pv 4) (λ_ _=>rfl)) (pv 0) (iA _))
    (fR (wB (gp iy (jq kL (pv 2) (gp iy (pv 4) f_) (λ_ _=>rfl)) f_) (wA (pv 3) (pv 4) set_list)))
    (fR (wB (gz (Ik rfl) (by rfl) T.max PyProof.Rows.boot_max (a_ (jq kL (pv 2) (pv 4) (λ_ _=>rfl)) (a_ (jq kL (pv 3) (gp iy (pv 4) f_) (λ_ _=>rfl)) e_))) (wA (pv 3) (pv 4) set_list))))))
  (fR (hG (pv 3)))),?_⟩
 refine FO ?_;intro _ _
 refine⟨jM,λl So=>?_⟩
 have RA:(upd H l (.lst [V.int 0])) n=some (.lst (gk new)):=by rw[d_ (gg hn So)];exact hn
 refine⟨_,rfl,n,_,rfl,.inl (gC.of RA),_,_,rfl,rfl,l,_,_,rfl,rfl,b_,by simp<;>omega,by simp<;>omega,by simp;have:sizeLine=2 ^ 24:=rfl;omega,λp hp=>?_⟩
 have nJ:p≠l:=λz=>by rw[z,b_] at hp;cases hp
 have D1:H p=none:=by rw[d_ nJ] at hp;exact hp
 have s0:gh H (upd H l (.lst [V.int 0])):=(gh.refl H).upd So
 have e0:(List.replicate (((gk new).length:Int)+1).toNat [V.int 0]).flatten=part old new i 0:=B8 old new i _ (by simp<;>omega)
 rw[e0]
 have s1:gh H (upd (upd H l (.lst [V.int 0])) p (.lst (part old new i 0))):=s0.upd D1
 refine⟨_,rfl,n,_,rfl,.inl (gC.of (s1 n _ hn)),_,_,rfl,rfl,_,rfl,_,rfl,_,_,rfl,⟨by simp<;>omega,by simp<;>omega,by omega,by omega⟩,?_⟩
 have en:((((gk new).length:Int)-1) - -1).toNat=new.length:=by simp<;>omega
 rw[en]
 let Jv:=λ(m:Nat) (Z:St) (H2:Hp)=>∃v,Z=[rs t,rr n,rr b,rr p,v]/\gh H H2/\H2 p=some (.lst (part old new i m))
 refine uo Jv ⟨none,rfl,s1,b_⟩ ?_ ?_
 ·rintro m Z H2 hm ⟨v,rfl,s2,h2⟩
  obtain⟨j,hj⟩:∃j,j=new.length-1-m:=⟨_,rfl⟩
  have hjl:j<new.length:=by omega
  rw[show((gk new).length:Int)-1+(m:Int) * -1=(j:Int) by simp<;>omega]
  have RB:new[j]?=some new[j]:=UQ hjl
  have B:=K01.M8 ht RB
  refine⟨_,rfl,_,rfl,n,_,_,_,rfl,rfl,gC.of (s2 n _ hn),gs rfl (j4 RB),_,rfl,rfl,_,rfl,?_⟩
  refine kZ (λhc=>?_) (λhc=>?_)
  ·have hc:new[j]=t:=by have:=aaA hc;injection this
   rw[aax hc] at B
   refine⟨_,rfl,_,rfl,_,_,rfl,rfl,b,_,_,_,rfl,rfl,gC.of (s2 b _ hb),gs (j:=j+1) (by omega) (C_ (by omega)),_,_,rfl,rfl,_,rfl,_,rfl,p,_,_,j,rfl,rfl,h2,wR rfl (by rw[As];omega),?_⟩
   refine⟨_,rfl,s2.upd D1,?_⟩
   rw[b_]
   dsimp only
   have e:((K01.wV old new (i+1) (j+1):Nat):Int)+1=((K01.wV old new i j:Nat):Int):=by omega
   rw[e,hj,Fb hm]
  ·have hc:¬new[j]=t:=λz=>hc (by rw[z];exact XZ rfl)
   rw[aav hc] at B
   refine⟨_,rfl,_,rfl,b,_,_,_,rfl,rfl,gC.of (s2 b _ hb),gs rfl (C_ (by omega)),_,rfl,_,rfl,_,_,rfl,rfl,p,_,_,_,rfl,rfl,gC.of h2,gs (j:=j+1) (by omega) (HA (by omega) (by omega)),_,_,rfl,_,rfl,_,rfl,p,_,_,j,rfl,rfl,h2,wR rfl (by rw[As];omega),?_⟩
   refine⟨_,rfl,s2.upd D1,?_⟩
   rw[b_]
   have e:(if((K01.wV old new i (j+1):Nat):Int)>((K01.wV old new (i+1) j:Nat):Int) then((K01.wV old new i (j+1):Nat):Int) else((K01.wV old new (i+1) j:Nat):Int))=((K01.wV old new i j:Nat):Int):=by split<;>omega
   rw[e,hj,Fb hm]
 ·rintro Z H2 ⟨v,rfl,s2,h2⟩
  refine⟨_,rfl,k p H2 s2 D1 ?_⟩
  rw[h2,K5]
def OJ(H:Hp)(old new:List Str)(rows:List V)(Vc:Nat):Prop:=rows.length=old.length+1/\∀i,i<=old.length->∃a,rows[i]?=some (.ref a)/\(Vc<=i->H a=some (.lst (tab old new i)))
abbrev nMP:List Str:=["old","new","table","first","place"]
theorem Nq:gw ["old","new","table","first","place"] ["old","new"] (gb Wg):=⟨rfl,rfl,rfl,by decide+kernel,rfl,by decide+kernel,by decide+kernel⟩
def T2:Sp:=λvs H Q _=>∃(old new:List Str)(o n:Addr),vs=[.ref o,.ref n]/\H o=some (.lst (gk old))/\H n=some (.lst (gk new))/\old.length<=1000/\new.length<=1000/\
 ∀p H' rows,gh H H'->H p=none->H' p=some (.lst rows)->OJ H' old new rows 0->Q (.ref p) H'
theorem K6(new:List Str)(n:Nat)(h:n=new.length+1):(List.replicate n [V.int 0]).flatten=tab [] new 0:=by
 rw[B8 [] new 0 n h]
 unfold part tab
 refine ab5 λj _=>?_
 rw[show K01.wV ([]:List Str) new 0 j=0 from K01.zc (.inl (by simp))]
 split<;>rfl
theorem Nr(old new:List Str)(n:Nat)(h:n=new.length+1):(List.replicate n [V.int 0]).flatten=tab old new old.length:=by
 rw[K6 new n h]
 unfold tab
 refine ab5 λj _=>?_
 rw[show K01.wV ([]:List Str) new 0 j=0 from K01.zc (.inl (by simp)),K01.zc (.inl (XU _))]
theorem T4{f fC:Addr}{fd Sy:FuncData}(F:xT K "most_pairs" "most_pairs" Wg f fd)(T:Txt mg)(C:xT K "counts_with" "counts_with" Wf fC Sy)(bC:Binds K Sy ["text","new","below"] [])(mC:mg "counts_with"=some (.ref fC)) :
  ig P w K mg base mK 2 f fd ["old","new"] T2:=by
 have GC:ig P w K mg base mK 1 fC Sy ["text","new","below"] TZ:=T1 C T
 refine F.rA Nq λju A outer s H vs Q E hr h=>?_
 obtain⟨old,new,o,n,rfl,ho,hn,OY,tP,k⟩:=h
 refine⟨_,de (BQ (j:=2) nMP (gb Wg).names [4] Nq.nd rfl rfl rfl (jT rfl T.range (a_ (gp iy (gz gq (by rfl) T.len aaL (a_ (pv 0) e_)) f_) e_)) rfl (by decide+kernel)
   (λ_ _ _ _=>iu (i:=4) Nq.nd rfl (Or.inl rfl)) (λ_ _ _ _=>lM) (λ_ _ _ _=>⟨_,gp Gk (iB (a_ f_ e_)) (gp iy (gz gq (by rfl) T.len aaL (a_ (pv 1) e_)) f_),by(try simp only [kO]);rfl⟩))
  (de (iD aaM rfl (wL rfl T.range (a_ (gp Ct (gz gq (by rfl) T.len aaL (a_ (pv 0) e_)) f_) (a_ (xO rF f_) (a_ (xO rF f_) e_)))) (iu (i:=3) Nq.nd rfl (Or.inl rfl))
   (fR (wB (uX GC hr rfl mC C.kp bC .nil pE (a_ (jq kL (pv 0) (pv 3) (λ_ _=>rfl)) (a_ (pv 1) (a_ (jq kL (pv 2) (gp iy (pv 3) f_) (λ_ _=>rfl)) e_)))) (wA (pv 2) (pv 3) set_list))))
  (fR (hG (pv 2)))),?_⟩
 refine FO ?_;intro _ _
 refine⟨_,rfl,o,_,rfl,.inl (gC.of ho),_,_,rfl,rfl,_,rfl,by simp<;>omega,by simp<;>omega,?_⟩
 have en:(((gk old).length:Int)+1).toNat=old.length+1:=by simp<;>omega
 rw[en]
 let Jv:=λ(m:Nat) (ys:List V) (Z:St) (H2:Hp)=>∃v,Z=[rr o,rr n,none,none,v]/\gh H H2/\ys.length=m/\∀i,i<m->∃a,ys[i]?=some (.ref a)/\H a=none/\H2 a=some (.lst (tab old new old.length))
 refine rH (by have:sizeLine=2 ^ 24:=rfl;omega) Jv
  ⟨none,rfl,gh.refl H,rfl,λi hi=>absurd hi (Nat.not_lt_zero _)⟩ (by rintro _ _ _ _ ⟨_,_,_,e,_⟩;exact Nat.le_of_eq e) ?_ ?_
 ·rintro m ys Z H2 hm ⟨v,rfl,s2,hy,zo⟩
  refine⟨jM,λl So=>?_⟩
  have s3:gh H (upd H2 l (.lst [V.int 0])):=s2.new So
  refine⟨_,rfl,n,_,rfl,.inl (gC.of (s3 n _ hn)),_,_,rfl,rfl,l,_,_,rfl,rfl,b_,by simp<;>omega,by simp<;>omega,by simp;have:sizeLine=2 ^ 24:=rfl;omega,λp hp=>?_⟩
  rw[Nr old new _ (show(((gk new).length:Int)+1).toNat=new.length+1 by simp<;>omega)]
  have nJ:p≠l:=λz=>by rw[z,b_] at hp;cases hp
  have A7:H2 p=none:=by rw[d_ nJ] at hp;exact hp
  refine⟨_,rfl,s3.new hp,by rw[YN,hy];rfl,λi hi=>?_⟩
  by_cases e:i<m
  ·obtain⟨a,e1,e2,e3⟩:=zo i e
   refine⟨a,by rw[abT (by omega)];exact e1,e2,?_⟩
   rw[d_ (gg e3 A7),d_ (gg e3 So)]
   exact e3
  ·have:i=m:=by omega
   subst this
   exact⟨p,by rw[abk (by omega),hy];simp,s2.free A7,b_⟩
 ·rintro ys Z H2 ⟨v,rfl,s2,hy,zo⟩ p hp
  have s3:gh H (upd H2 p (.lst ys)):=s2.new hp
  have D1:H p=none:=s2.free hp
  refine⟨_,rfl,o,_,rfl,.inl (gC.of (s3 o _ ho)),_,_,rfl,rfl,_,rfl,_,rfl,_,_,rfl,⟨by simp<;>omega,by simp<;>omega,by omega,by omega⟩,?_⟩
  have en:((((gk old).length:Int)-1) - -1).toNat=old.length:=by simp<;>omega
  rw[en]
  let Jv:=λ(m:Nat) (Z:St) (H3:Hp)=>∃v w rows,Z=[rr o,rr n,rr p,v,w]/\gh H H3/\H3 p=some (.lst rows)/\OJ H3 old new rows (old.length-m)/\∀i a,i<=old.length->rows[i]?=some (.ref a)->a≠p
  refine uo Jv
   ⟨_,_,ys,rfl,s3,b_,⟨hy,λi hi=>?_⟩,λi a hi ha=>?_⟩ ?_ ?_
  ·obtain⟨a,e1,e2,e3⟩:=zo i (by omega)
   refine⟨a,e1,λz=>?_⟩
   have:i=old.length:=by omega
   subst this
   rw[d_ (gg e3 hp)]
   exact e3
  ·obtain⟨a',e1,e2,e3⟩:=zo i (by omega)
   rw[ha] at e1
   cases e1
   exact gg e3 hp
  ·rintro m Z H3 hm ⟨v,w',rows,rfl,s4,h4,tb,nb⟩
   obtain⟨i,hi⟩:∃i,i=old.length-1-m:=⟨_,rfl⟩
   have Sm:i<old.length:=by omega
   rw[show((gk old).length:Int)-1+(m:Int) * -1=(i:Int) by simp<;>omega]
   have Wx:old[i]?=some old[i]:=UQ Sm
   obtain⟨b,e1,e2⟩:=tb.2 (i+1) (by omega)
   refine⟨_,rfl,_,rfl,o,_,_,_,rfl,rfl,gC.of (s4 o _ ho),gs rfl (j4 Wx),_,rfl,_,rfl,_,rfl,_,_,rfl,rfl,p,_,_,_,rfl,rfl,gC.of h4,gs (j:=i+1) (by omega) e1,?_⟩
   refine⟨old,new,i,_,n,b,rfl,Wx,s4 n _ hn,e2 (by omega),tP,λq H5 s5 hq5 h5=>?_⟩
   have hqp:q≠p:=λz=>by rw[z,h4] at hq5;cases hq5
   refine⟨_,rfl,_,rfl,p,rows,_,i,rfl,rfl,s5 p _ h4,wR rfl (by rw[tb.1];omega),?_⟩
   refine⟨_,_,_,rfl,(s4.trans s5).upd D1,b_,⟨by rw[acq];exact tb.1,λi' By=>?_⟩,λi' a By ha=>?_⟩
   ·by_cases e:i'=i
    ·subst e
     refine⟨q,by rw[abz (by rw[tb.1];omega)],λ_=>?_⟩
     rw[d_ hqp];exact h5
    ·obtain⟨a,a1,a2⟩:=tb.2 i' By
     refine⟨a,by rw[abI (λz=>e z.symm)];exact a1,λz=>?_⟩
     rw[d_ (nb i' a By a1)]
     exact s5 a _ (a2 (by omega))
   ·by_cases e:i'=i
    ·subst e
     rw[abz (by rw[tb.1];omega)] at ha
     cases ha
     exact hqp
    ·rw[abI (λz=>e z.symm)] at ha
     exact nb i' a By ha
  ·rintro Z H3 ⟨v,w',rows,rfl,s4,h4,tb,nb⟩
   refine⟨_,rfl,k p H3 rows s4 D1 h4 ?_⟩
   rw[Nat.sub_self] at tb
   exact tb
end
end Kp
namespace K01
theorem Dc{Z:Type}[DecidableEq Z]{a:Z}{new:List Z}{j k:Nat}(hj:j<=k)(hk:new[k]?=some a)(hm:∀l,j<=l->l<k->new[l]?≠some a):i7 a new j=some k:=by
 cases e:i7 a new j with
 | none=>exact absurd hk (nQ e k hj)
 | some k'=>
  obtain⟨h1,h2,h3⟩:=kE e
  rcases Nat.lt_trichotomy k k' with h|h|h
  ·exact absurd hk (h3 k hj h)
  ·rw[h]
  ·exact absurd h2 (hm k' h1 h)
theorem Dd{Z:Type}[DecidableEq Z]{a:Z}{new:List Z}{j:Nat}(hm:∀l,j<=l->l<new.length->new[l]?≠some a):i7 a new j=none:=by
 cases e:i7 a new j with
 | none=>rfl
 | some k'=>
  obtain⟨h1,h2,h3⟩:=kE e
  exact absurd h2 (hm k' h1 (List.getElem?_eq_some_iff.mp h2).1)
end K01
namespace Kp
open PySem L2
section
variable{P:Program}{w:World}{K:Qqy}{mg:Qqx}{base:Heap}
noncomputable def Yb:Option Nat->V
 | none=>.jc
 | some k=>.int k
theorem T5:gw ["texts","text","start","place"] ["texts","text","start"] (gb Ya):=⟨rfl,rfl,rfl,by decide+kernel,rfl,by decide+kernel,by decide+kernel⟩
def T6:Sp:=λvs H Q _=>∃(new:List Str)(t:Str)(n:Addr)(j:Nat),vs=[.ref n,.str t,.int j]/\H n=some (.lst (gk new))/\new.length<=1000/\j<=1000/\Q (Yb (K01.i7 t new j)) H
theorem T7{f:Addr}{fd:FuncData}(F:xT K "place_from" "place_from" Ya f fd)(T:Txt mg):ig P w K mg base mK 1 f fd ["texts","text","start"] T6:=by
 refine F.rA T5 λju A outer s H vs Q E hr h=>?_
 obtain⟨new,t,n,j,rfl,hn,hl,hj,k⟩:=h
 refine⟨_,de (iD aaM rfl (BD rfl T.range (a_ (pv 2) (a_ (gz gq (by rfl) T.len aaL (a_ (pv 0) e_)) e_))) (iu (i:=3) T5.nd rfl (Or.inl rfl))
   (fR (ip (hX mB (jq kL (pv 0) (pv 3) (λ_ _=>rfl)) (pv 1) (iA _)) (fR (hG (pv 3))) hU)))
  (fR (hG ui)),?_⟩
 refine Mm ?_;intro _
 refine⟨_,rfl,_,rfl,n,_,rfl,.inl (gC.of hn),_,_,rfl,⟨by omega,by omega,by simp<;>omega,by simp<;>omega⟩,?_⟩
 let Jv:=λ(m:Nat) (Z:St) (H2:Hp)=>∃v,Z=[rr n,rs t,ri j,v]/\H2=H/\∀l,j<=l->l<j+m->new[l]?≠some t
 refine lB Jv ⟨none,rfl,rfl,λl h1 h2=>by omega⟩ ?_ ?_
 ·rintro m Z H2 hm ⟨v,rfl,rfl,h2⟩
  have hm:j+m<new.length:=by simp at hm;omega
  rw[show(j:Int)+(m:Int)=((j+m:Nat):Int) by omega]
  have RB:new[j+m]?=some new[j+m]:=UQ hm
  refine⟨_,rfl,_,rfl,n,_,_,_,rfl,rfl,gC.of hn,gs rfl (j4 RB),_,rfl,rfl,_,rfl,?_⟩
  refine kZ (λhc=>?_) (λhc=>?_)
  ·have hc:new[j+m]=t:=by have:=aaA hc;injection this
   rw[hc] at RB
   rw[K01.Dc (Nat.le_add_right j m) RB h2] at k
   exact⟨_,rfl,k⟩
  ·have hc:¬new[j+m]=t:=λz=>hc (by rw[z];exact XZ rfl)
   refine⟨_,rfl,rfl,λl h3 h4=>?_⟩
   by_cases e:l=j+m
   ·subst e
    rw[RB]
    intro z
    exact hc (aaE z)
   ·exact h2 l h3 (by omega)
 ·rintro Z H2 ⟨v,rfl,rfl,h2⟩
  rw[K01.Dd (j:=j) λl h3 h4=>h2 l h3 (by simp<;>omega)] at k
  exact k
def kI(H:Hp)(q:Nat×Nat)(v:V):Prop:=∃a,v=.ref a/\H a=some (.tup [.int q.1,.int q.2])
abbrev iC(H:Hp)(l:List (Nat×Nat))(vs:List V):Prop:=Paired (kI H) l vs
theorem iC.keep{H H':Hp}{l:List (Nat×Nat)}{vs:List V}(h:iC H l vs)(k:∀a xs,H a=some (.tup xs)->H' a=some (.tup xs)):iC H' l vs:=
 Paired.i4 h λq v ⟨a,e,h⟩=>⟨a,e,k a _ h⟩
theorem QE:gw ["old","new","table","pairs","start","first","second"] ["old","new"] (gb OI):=⟨rfl,rfl,rfl,by decide+kernel,rfl,by decide+kernel,by decide+kernel⟩
def spK:Sp:=λvs H Q _=>∃(old new:List Str)(o n:Addr),vs=[.ref o,.ref n]/\H o=some (.lst (gk old))/\H n=some (.lst (gk new))/\old.length<=1000/\new.length<=1000/\
 ∀p H' ps,gh H H'->H p=none->H' p=some (.lst ps)->iC H' (K01.kept old new) ps->Q (.ref p) H'
theorem Nt{f fM fC fP:Addr}{fd Zc Sy Zd:FuncData}(F:xT K "kept" "kept" OI f fd)(T:Txt mg)(C:xT K "counts_with" "counts_with" Wf fC Sy)(bC:Binds K Sy ["text","new","below"] [])(mC:mg "counts_with"=some (.ref fC))
  (M:xT K "most_pairs" "most_pairs" Wg fM Zc) (bM:Binds K Zc ["old","new"] []) (mM:mg "most_pairs"=some (.ref fM)) (Pf:xT K "place_from" "place_from" Ya fP Zd) (bP:Binds K Zd ["texts","text","start"] []) (mP:mg "place_from"=some (.ref fP)) :
  ig P w K mg base mK 3 f fd ["old","new"] spK:=by
 have GM:ig P w K mg base mK 2 fM Zc ["old","new"] T2:=T4 M T C bC mC
 have GP:ig P w K mg base mK 2 fP Zd ["texts","text","start"] T6:=(T7 Pf T).mono (by decide)
 refine F.rA QE λju A outer s H vs Q E hr h=>?_
 obtain⟨old,new,o,n,rfl,ho,hn,OY,tP,k⟩:=h
 refine⟨_,de (ly (i:=2) QE.nd rfl (Or.inl rfl) (uX GM hr rfl mM M.kp bM .nil pE (a_ (pv 0) (a_ (pv 1) e_))))
  (de (ly (i:=3) QE.nd rfl (Or.inl rfl) (iB e_))
  (de (ly (i:=4) QE.nd rfl (Or.inl rfl) f_)
  (de (iD aaM rfl (jT rfl T.range (a_ (gz gq (by rfl) T.len aaL (a_ (pv 0) e_)) e_)) (iu (i:=5) QE.nd rfl (Or.inl rfl))
   (de (ly (i:=6) QE.nd rfl (Or.inl rfl) (uX GP hr rfl mP Pf.kp bP .nil pE (a_ (pv 1) (a_ (jq kL (pv 0) (pv 5) (λ_ _=>rfl)) (a_ (pv 4) e_)))))
   (fR (ip (pw_and (jv (s_ (pv 6))) (pw_and1 (hX mB
     (gp iy (jq kL (jq kL (pv 2) (gp iy (pv 5) f_) (λ_ _=>rfl)) (gp iy (pv 6) f_) (λ_ _=>rfl)) f_)
     (jq kL (jq kL (pv 2) (pv 5) (λ_ _=>rfl)) (pv 4) (λ_ _=>rfl)) (iA _)))).pt
    (de (hV (pB aa1 aa_ aba ko (pv 3) (a_ (Cv (a_ (pv 5) (a_ (pv 6) e_))) e_)))
    (fR (ly (i:=4) QE.nd rfl (Or.inl rfl) (gp iy (pv 6) f_))))
    hU))))
  (fR (hG (pv 3)))))),?_⟩
 refine R6 ?_;intro _ _ _ _
 refine⟨_,rfl,_,rfl,old,new,o,n,rfl,ho,hn,OY,tP,λtb H1 rows s1 Y3 h1 Vd=>?_⟩
 refine⟨jM,λpr WL=>?_⟩
 have Ze:H pr=none:=s1.free WL
 refine⟨_,rfl,o,_,rfl,.inl (gC.of (s1.new WL o _ ho)),_,rfl,by simp<;>omega,by simp<;>omega,?_⟩
 have en:((gk old).length:Int).toNat=old.length:=by simp
 rw[en]
 refine lB (λm Z H2=>∃(j:Nat)(acc:List (Nat×Nat))(ps:List V)(v w:Option V),Z=[rr o,rr n,rr tb,rr pr,ri j,v,w]/\gh H1 H2/\H2 pr=some (.lst ps)/\iC H2 acc ps/\acc.length<=m/\j<=new.length/\
   acc++K01.pG new m (old.drop m) j=K01.kept old new) ⟨0,[],[],none,none,rfl,(gh.refl H1).new WL,b_,.nil,XU _,aaY _,rfl⟩ ?_ ?_
 ·rintro m Z H2 hm ⟨j,acc,ps,v,w',rfl,s2,h2,pa,AI,hj,hk⟩
  rw[show(0:Int)+(m:Int)=(m:Int) by omega]
  have hom:old[m]?=some old[m]:=UQ hm
  have hd:old.drop m=old[m]::old.drop (m+1):=aa6 hm
  rw[hd,K01.pG] at hk
  refine⟨_,rfl,_,rfl,_,rfl,o,_,_,_,rfl,rfl,gC.of (s2 o _ (s1 o _ ho)),gs rfl (j4 hom),_,rfl,new,_,n,j,rfl,s2 n _ (s1 n _ hn),tP,by omega,?_⟩
  cases e:K01.i7 old[m] new j with
  | none=>
   rw[e] at hk
   refine⟨_,rfl,_,rfl,Kg (by rfl) (jg ?_)⟩
   exact⟨j,acc,ps,_,_,rfl,s2,h2,pa,by omega,hj,hk⟩
  | some q=>
   rw[e] at hk
   simp only at hk
   obtain⟨hq1,hq2,QF⟩:=K01.kE e
   have HZ:q<new.length:=(List.getElem?_eq_some_iff.mp hq2).1
   obtain⟨a1,ea1,Zf⟩:=Vd.2 (m+1) (by omega)
   obtain⟨a0,ea0,Zg⟩:=Vd.2 m (by omega)
   have Zf:=s2 a1 _ (Zf (aaY _))
   have Zg:=s2 a0 _ (Zg (aaY _))
   have Ve:H2 tb=some (.lst rows):=s2 tb _ h1
   refine⟨_,rfl,_,rfl,Kh (by rfl) ?_⟩
   refine⟨_,rfl,_,rfl,_,_,rfl,rfl,tb,_,_,_,rfl,rfl,gC.of Ve,gs (j:=m+1) (by omega) ea1,_,rfl,_,_,rfl,rfl,a1,_,_,_,rfl,rfl,gC.of Zf,gs (j:=q+1) (by omega) (C_ (by omega)),_,_,rfl,rfl,
    _,rfl,_,rfl,tb,_,_,_,rfl,rfl,gC.of Ve,gs rfl ea0,_,rfl,a0,_,_,_,rfl,rfl,gC.of Zg,gs rfl (C_ (by omega)),rfl,_,rfl,?_⟩
   refine kZ (λhc=>?_) (λhc=>?_)
   ·have hc:((K01.wV old new (m+1) (q+1):Nat):Int)+1=((K01.wV old new m j:Nat):Int):=by have:=aaA hc;injection this
    have Bu:K01.lcs (old.drop (m+1)) (new.drop (q+1))+1=K01.lcs (old[m]::old.drop (m+1)) (new.drop j):=by rw[<-hd];unfold K01.wV at hc;omega
    rw[aax Bu] at hk
    refine⟨_,rfl,.inl ⟨rfl,_,gC.of h2⟩,_,rfl,_,rfl,jM,λt ht=>?_⟩
    have nJ:=pa.length
    have ntp:pr≠t:=gg h2 ht
    refine⟨pr,ps,_,rfl,rfl,by rw[d_ ntp];exact h2,by have:sizeLine=2 ^ 24:=rfl;omega,?_⟩
    refine⟨_,rfl,_,_,rfl,rfl,q+1,acc++[(m,q)],ps++[.ref t],_,_,rfl,(s2.new ht).upd WL,b_,?_,by rw[YN];simp;omega,by omega,by rw[aa4];exact hk⟩
    refine Paired.snoc (pa.keep λa xs ha=>?_) ⟨t,rfl,?_⟩
    ·rw[d_ (iS ha h2 (by intro z;cases z)),d_ (gg ha ht)];exact ha
    ·rw[d_ (ab0 ntp),b_]
     rfl
   ·have hc:¬((K01.wV old new (m+1) (q+1):Nat):Int)+1=((K01.wV old new m j:Nat):Int):=λz=>hc (XZ (abd V.int z))
    have Bu:¬K01.lcs (old.drop (m+1)) (new.drop (q+1))+1=K01.lcs (old[m]::old.drop (m+1)) (new.drop j):=by rw[<-hd];unfold K01.wV at hc;omega
    rw[aav Bu] at hk
    exact⟨j,acc,ps,_,_,rfl,s2,h2,pa,by omega,hj,hk⟩
 ·rintro Z H2 ⟨j,acc,ps,v,w',rfl,s2,h2,pa,AI,hj,hk⟩
  rw[acE,K01.pG,aaZ] at hk
  rw[hk] at pa
  exact⟨_,rfl,k pr H2 ps (s1.trans s2) Ze h2 pa⟩
end
end Kp
namespace PK
open PySem L2 PM
open Kp (kI iC)
theorem QG(a b c d:V):jD "lower_name" d (jD "upper_name" c (jD "text" b (jD "name" a [])))=Nk a b c d:=by kernel_rfl
theorem QH(a b c d e:V):jD "other" e (jD "cuts" d (jD "puts" c (jD "file" b (jD "name" a []))))=Nl a b c d e:=by kernel_rfl
noncomputable def Sb(a l:Addr):List (Str×V):=[("ahead",.ref a),("lines",.ref l)]
theorem QI(a l:Addr):jD "lines" (.ref l) (jD "ahead" (.ref a) [])=Sb a l:=by kernel_rfl
theorem lG(a l:Addr):(Sb a l).lookup ("lines":Str)=some (V.ref l):=by kernel_rfl
theorem GG(a l:Addr):(Sb a l).lookup ("ahead":Str)=some (V.ref a):=by kernel_rfl
theorem QJ(a l:Addr):(Sb a l).lookup ("is_ahead":Str)=none:=by kernel_rfl
theorem K7(a l:Addr):(Sb a l).lookup ("quarrelling":Str)=none:=by kernel_rfl
theorem IU(a:Addr):(jD ("ahead":Str) (.ref a) []).lookup ("ahead":Str)=some (V.ref a):=by kernel_rfl
def GH(A:Ad)(H:Hp)(p:Addr)(al row:List Ln):Prop:=∃dx ah l,H p=some (.ins A.h_ dx (Sb ah l))/\C8 H ah al/\oj A H l row
theorem GH.same{A:Ad}{H H':Hp}{p:Addr}{al row:List Ln}(x:GH A H p al row)(s:gh H H'):GH A H' p al row:=by
 obtain⟨dx,ah,l,h1,h2,h3⟩:=x
 exact⟨dx,ah,l,s _ _ h1,h2.same s,h3.same s⟩
section
variable{P:Program}{w:World}{K:Qqy}{mg:Qqx}{base:Heap}{A:Ad}
def T8(A:Ad):Sp:=λvs H Q _=>∃(p dx:Addr)(a b c d:V),vs=[.ref p,a,b,c,d]/\H p=some (.ins A.gH dx [])/\∀H',(∀x,x≠p->H' x=H x)->H' p=some (.ins A.gH dx (Nk a b c d))->Q .jc H'
theorem De(T:Txt mg)(O:Ok K mg A):ig P w K mg base mK 1 A.mY A.q9 ["self","name","text","upper_name","lower_name"] (T8 A):=by
 refine O.ud.f.rA wY λju A0 outer s H vs Q E hr h=>?_
 obtain⟨p,dx,a,b,c,d,rfl,hp,k⟩:=h
 refine⟨_,(de (lJ (pv 0) (pv 1) rfl)
  (de (lJ (pv 0) (pv 2) rfl)
  (de (lJ (pv 0) (pv 3) rfl)
  (fR (lJ (pv 0) (pv 4) rfl))))),?_⟩
 refine OE ?_;intro _ _ _
 refine⟨_,rfl,_,rfl,p,A.gH,dx,_,rfl,hp,O.iL,O.gF,(by show 0<1000;decide),?_⟩
 refine⟨_,rfl,_,rfl,p,A.gH,dx,_,rfl,b_,O.iL,O.jK,(by show 1<1000;decide),?_⟩
 refine⟨_,rfl,_,rfl,p,A.gH,dx,_,rfl,b_,O.iL,O.iF,(by show 2<1000;decide),?_⟩
 refine⟨_,rfl,_,rfl,p,A.gH,dx,_,rfl,b_,O.iL,O.iG,(by show 3<1000;decide),?_⟩
 exact k _ (λx hx=>by rw[d_ hx,d_ hx,d_ hx,d_ hx]) (Eq.trans b_ (abd (λl=>some (HO.ins A.gH dx l)) (QG a b c d)))
def T9(A:Ad):Sp:=λvs H Q _=>∃(p dx:Addr)(a b c d e:V),vs=[.ref p,a,b,c,d,e]/\H p=some (.ins A.g_ dx [])/\∀H',(∀x,x≠p->H' x=H x)->H' p=some (.ins A.g_ dx (Nl a b c d e))->Q .jc H'
theorem o9(T:Txt mg)(O:Ok K mg A):ig P w K mg base mK 1 A.mv A.pM ["self","name","file","puts","cuts","other"] (T9 A):=by
 refine O.lY.f.rA vw λju A0 outer s H vs Q E hr h=>?_
 obtain⟨p,dx,a,b,c,d,e,rfl,hp,k⟩:=h
 refine⟨_,(de (lJ (pv 0) (pv 1) rfl)
  (de (lJ (pv 0) (pv 2) rfl)
  (de (lJ (pv 0) (pv 3) rfl)
  (de (lJ (pv 0) (pv 4) rfl)
  (fR (lJ (pv 0) (pv 5) rfl)))))),?_⟩
 refine R6 ?_;intro _ _ _ _
 refine⟨_,rfl,_,rfl,p,A.g_,dx,_,rfl,hp,O.jn,O.iU,(by show 0<1000;decide),?_⟩
 refine⟨_,rfl,_,rfl,p,A.g_,dx,_,rfl,b_,O.jn,O.kq,(by show 1<1000;decide),?_⟩
 refine⟨_,rfl,_,rfl,p,A.g_,dx,_,rfl,b_,O.jn,O.jO,(by show 2<1000;decide),?_⟩
 refine⟨_,rfl,_,rfl,p,A.g_,dx,_,rfl,b_,O.jn,O.jP,(by show 3<1000;decide),?_⟩
 refine⟨_,rfl,_,rfl,p,A.g_,dx,_,rfl,b_,O.jn,O.iW,(by show 4<1000;decide),?_⟩
 exact k _ (λx hx=>by rw[d_ hx,d_ hx,d_ hx,d_ hx,d_ hx]) (Eq.trans b_ (abd (λl=>some (HO.ins A.g_ dx l)) (QH a b c d e)))
def Nu(A:Ad):Sp:=λvs H Q _=>∃(p dx a:Addr)(ps:List Pt)(f:Str),vs=[.ref p,.ref a,.str f]/\H p=some (.ins A.h_ dx [])/\yV A H a ps/\Small ps/\
 ((gm ps f).map (·.nm)).Nodup/\qp (gm ps f)/\KD (gm ps f)/\
 ∀(H':Hp),(∀b o,H b=some o->b≠p->H' b=some o)->GH A H' p (gm ps f) (rowOf (Ah (gm ps f)) (jj ps f))->Q .jc H'
theorem lI.off{H H':Hp}{p C dx:Addr}{fs:List (Str×V)}{v:V}{n:Nm}(x:lI H v n)(hp:H p=some (.ins C dx fs))(s:∀b o,H b=some o->b≠p->H' b=some o):lI H' v n:=by
 obtain⟨t,e,h⟩:=x
 exact⟨t,e,s _ _ h (iS h hp (λz=>by cases z))⟩
theorem GA.off{H H':Hp}{p C dx:Addr}{fs:List (Str×V)}{v:V}{n:Option Nm}(x:GA H v n)(hp:H p=some (.ins C dx fs))(s:∀b o,H b=some o->b≠p->H' b=some o):GA H' v n:=by
 cases n with
 | none=>exact x
 | some n=>exact lI.off x hp s
theorem mH.off{H H':Hp}{p C dx a:Addr}{fs:List (Str×V)}{l:Ln}(x:mH A H a l)(hp:H p=some (.ins C dx fs))(hf:fs.length<2)(s:∀b o,H b=some o->b≠p->H' b=some o):mH A H' a l:=by
 obtain⟨Zh,vn,vu,vl,h,h1,h2,h3⟩:=x
 have:a≠p:=λz=>by
  rw[z,hp] at h
  have e:=aaE h
  injection e with _ _ e
  rw[e] at hf
  exact absurd hf (by unfold Nk;simp)
 exact⟨Zh,vn,vu,vl,s _ _ h this,h1.off hp s,h2.off hp s,h3.off hp s⟩
theorem oj.off{H H':Hp}{p C dx a:Addr}{fs:List (Str×V)}{ls:List Ln}(x:oj A H a ls)(hp:H p=some (.ins C dx fs))(hf:fs.length<2)(s:∀b o,H b=some o->b≠p->H' b=some o):oj A H' a ls:=by
 obtain⟨as,h,q⟩:=x
 exact⟨as,s _ _ h (iS h hp (λz=>by cases z)),Paired.i4 q λ_ _ z=>z.off hp hf s⟩
theorem vT.off{H H':Hp}{p C dx a:Addr}{fs:List (Str×V)}{ns:List Nm}(x:vT H a ns)(hp:H p=some (.ins C dx fs))(s:∀b o,H b=some o->b≠p->H' b=some o):vT H' a ns:=by
 obtain⟨as,h,q⟩:=x
 exact⟨as,s _ _ h (iS h hp (λz=>by cases z)),Paired.i4 q λ_ _ z=>z.off hp s⟩
theorem om.off{H H':Hp}{p C dx a:Addr}{fs:List (Str×V)}{pt:Pt}(x:om A H a pt)(hp:H p=some (.ins C dx fs))(hf:fs.length<2)(s:∀b o,H b=some o->b≠p->H' b=some o):om A H' a pt:=by
 obtain⟨Zh,vf,pu,cu,vo,h,h1,h2,h3,h4⟩:=x
 have:a≠p:=λz=>by
  rw[z,hp] at h
  have e:=aaE h
  injection e with _ _ e
  rw[e] at hf
  exact absurd hf (by unfold Nl;simp)
 exact⟨Zh,vf,pu,cu,vo,s _ _ h this,h1,h2.off hp hf s,h3.off hp s,h4⟩
theorem yV.off{H H':Hp}{p C dx a:Addr}{fs:List (Str×V)}{ps:List Pt}(x:yV A H a ps)(hp:H p=some (.ins C dx fs))(hf:fs.length<2)(s:∀b o,H b=some o->b≠p->H' b=some o):yV A H' a ps:=by
 obtain⟨as,h,q⟩:=x
 exact⟨as,s _ _ h (iS h hp (λz=>by cases z)),Paired.i4 q λ_ _ z=>z.off hp hf s⟩
theorem C8.off{H H':Hp}{p C dx a:Addr}{fs:List (Str×V)}{ls:List Ln}(x:C8 H a ls)(hp:H p=some (.ins C dx fs))(s:∀b o,H b=some o->b≠p->H' b=some o):C8 H' a ls:=by
 obtain⟨kvs,e1,e2⟩:=x
 refine⟨kvs,s _ _ e1 (iS e1 hp (λz=>by cases z)),λn hn=>?_⟩
 obtain⟨b,dk,z1,z2,z3⟩:=e2 n hn
 exact⟨b,dk,z1,s _ _ z2 (iS z2 hp (λz=>by cases z)),z3⟩
theorem Bl(T:Txt mg)(O:Ok K mg A):ig P w K mg base mK 3 A.mw A.pT ["self","patches","file"] (Nu A):=by
 have Fx:=@C9 P w K mg base A T O
 have sW:=@vU P w K mg base A T O
 have xC:=@vV P w K mg base A T O
 have L0:=@IT P w K mg base A T O
 refine O.sy.f.rA vy λju A0 outer s H vs Q E hr h=>?_
 obtain⟨p,dx,a,ps,f,rfl,hp,ha,sm,nd,cl,tp,q⟩:=h
 have Vf:xp (gm ps f).length:=aam (qL ps f) sm.ix
 have Bz:=j6 ps f
 refine⟨_,(de (lJ (pv 0) (og O.BY Fx hr (a_ (og O.xm sW hr (a_ (pv 1) (a_ (pv 2) e_))) e_)) rfl)
   (fR (lJ (pv 0) (og O.KR L0 hr (a_ (og O.su xC hr (a_ (pv 1) (a_ (pv 2) e_))) (a_ (gA (pv 0) rfl) e_))) rfl))),?_⟩
 refine Mm ?_;intro _
 refine⟨_,rfl,_,rfl,a,ps,f,rfl,ha,sm,λl1 H1 s1 WM Vg=>?_⟩
 refine⟨l1,_,rfl,Vg,Vf,nd,cl,tp,λah H2 s2 WN Vh=>?_⟩
 have Zi:gh H H2:=s1.trans s2
 have A7:=Zi p _ hp
 refine⟨_,rfl,p,A.h_,dx,_,rfl,A7,O.j9,O.jy,(by show 0<1000;decide),?_⟩
 have s3:∀b o,H2 b=some o->b≠p->(upd H2 p (.ins A.h_ dx (jD "ahead" (.ref ah) []))) b=some o:=λb o e n=>by rw[d_ n];exact e
 have ha3:=(ha.same Zi).off A7 (by decide) s3
 have Vi:=Vh.off A7 s3
 refine⟨_,rfl,_,rfl,a,ps,f,rfl,ha3,sm,λst H4 s4 WO Vj=>?_⟩
 have U2:H4 p=some (.ins A.h_ dx (jD "ahead" (.ref ah) [])):=s4 p _ b_
 refine⟨_,rfl,p,A.h_,dx,_,_,rfl,U2,O.j9,O.jy,IU ah,st,ah,jj ps f,gm ps f,rfl,Vj,Vi.same s4,aam Bz.length_le Vf,(Bz.map _).nodup nd,λl hl=>aae (Bz.subset hl),tp,λl H5 s5 WQ Vk=>?_⟩
 have Zj:=s5 p _ U2
 refine⟨_,rfl,p,A.h_,dx,_,rfl,Zj,O.j9,O.il,(by show 1<1000;decide),?_⟩
 have s6:∀b o,H5 b=some o->b≠p->(upd H5 p (.ins A.h_ dx (jD "lines" (.ref l) (jD "ahead" (.ref ah) [])))) b=some o:=λb o e n=>by rw[d_ n];exact e
 refine q _ (λb o hb nb=>?_) ⟨dx,ah,l,Eq.trans b_ (abd (λl=>some (HO.ins A.h_ dx l)) (QI ah l)),?_,?_⟩
 ·rw[d_ nb]
  refine s5 b o (s4 b o ?_)
  rw[d_ nb]
  exact Zi b o hb
 ·exact((Vi.same s4).same s5).off Zj s6
 ·exact Vk.off Zj (by show 1<2;decide) s6
open Classical in
def Yc(A:Ad):Sp:=λvs H Q _=>∃(p:Addr)(al row:List Ln)(i j:Nat)(a b:Ln),vs=[.ref p,.int i,.int j]/\GH A H p al row/\row[i]?=some a/\row[j]?=some b/\b.nm∈al.map (·.nm)/\Q (.bl (decide (Ah al a.nm b.nm))) H
open Classical in
theorem Fc(T:Txt mg)(O:Ok K mg A):ig P w K mg base mK 1 A.pU A.pV ["self","first","second"] (Yc A):=by
 refine O.sA.f.rA vz λju A0 outer s H vs Q E hr h=>?_
 obtain⟨p,al,row,i,j,x,y,rfl,⟨dx,ah,l,h1,⟨kh,h2,h3⟩,⟨as,h4,h5⟩⟩,hi,hj,hy,q⟩:=h
 obtain⟨b,hb,dxb,vn,vu,vl,g1,⟨t,rfl,g2⟩,g3,g4⟩:=ir h5 hi
 obtain⟨c,hc,dxc,vn',vu',vl',k1,⟨t',rfl,k2⟩,k3,k4⟩:=ir h5 hj
 obtain⟨e,dk,z1,z2,z3⟩:=h3 y.nm hy
 have SA:(as.map V.ref)[i]?=some (.ref b):=by rw[aan,hb];rfl
 have hcj:(as.map V.ref)[j]?=some (.ref c):=by rw[aan,hc];rfl
 refine⟨_,(fR (hG (PD (o3 (by exact iT hr) (gA (kK (gA (pv 0) rfl) (pv 1)) rfl) (zO hr (gA (pv 0) rfl) (gA (kK (gA (pv 0) rfl) (pv 2)) rfl)))))),?_⟩
 refine⟨_,rfl,p,A.h_,dx,_,_,rfl,h1,O.j9,O.il,lG ah l,_,rfl,l,_,_,_,rfl,rfl,gC.of h4,gs rfl SA,b,A.gH,dxb,_,_,rfl,g1,O.iL,O.gF,iY,?_⟩
 refine⟨_,rfl,p,A.h_,dx,_,_,rfl,h1,O.j9,O.jy,GG ah l,_,rfl,p,A.h_,dx,_,_,rfl,h1,O.j9,O.il,lG ah l,_,rfl,l,_,_,_,rfl,rfl,gC.of h4,gs rfl hcj,c,A.gH,dxc,_,_,rfl,k1,O.iL,O.gF,iY,ah,.ref e,rfl,?_,e,_,rfl,i6.t (k:=nk x.nm) z2 g2,?_⟩
 ·have:=i6.t (k:=nk y.nm) h2 k2
  rw[z1] at this
  exact this
 ·have e2:(iN dk (nk x.nm)).isSome=decide (Ah al x.nm y.nm):=by
   rw[abn,aaS];exact z3 x.nm
  rw[e2]
  exact q
def Yd(A:Ad):Sp:=λvs H Q _=>∃(p:Addr)(al row:List Ln),vs=[.ref p]/\GH A H p al row/\(∀l∈row,l.nm∈al.map (·.nm))/\xp row.length/\∀r H' vs,gh H H'->H r=none->H' r=some (.lst vs)->iC H' (jb (Ah al) row) vs->Q (.ref r) H'
open Classical in
noncomputable def xq(lt:Nm->Nm->Prop)(row:List Ln)(i m:Nat):List (Nat×Nat):=((List.range' (i+1) m).filter λj=>decide (¬ltAt lt row i j)).map λj=>(i,j)
noncomputable def Fd(lt:Nm->Nm->Prop)(row:List Ln)(i:Nat):List (Nat×Nat):=(List.range i).flatMap λi=>xq lt row i (row.length-(i+1))
theorem K8(lt:Nm->Nm->Prop)(row:List Ln):Fd lt row row.length=jb lt row:=rfl
theorem B9(lt:Nm->Nm->Prop)(row:List Ln)(i:Nat):Fd lt row (i+1)=Fd lt row i++xq lt row i (row.length-(i+1)):=by
 unfold Fd
 rw[acx,abc,aaV,abZ,aaZ]
theorem IV(lt:Nm->Nm->Prop)(row:List Ln)(i m:Nat)(h:¬ltAt lt row i (i+1+m)):xq lt row i (m+1)=xq lt row i m++[(i,i+1+m)]:=by
 unfold xq
 rw[show m+1=m+1 from rfl,<-List.range'_append_1 (s:=i+1) (m:=m) (n:=1),aaH,aaG]
 congr 1
 show List.map _ (List.filter _ [i+1+m])=_
 rw[YR (by simpa using h)]
 rfl
theorem GI(lt:Nm->Nm->Prop)(row:List Ln)(i m:Nat)(h:ltAt lt row i (i+1+m)):xq lt row i (m+1)=xq lt row i m:=by
 unfold xq
 rw[<-List.range'_append_1 (s:=i+1) (m:=m) (n:=1),aaH,aaG]
 show _++List.map _ (List.filter _ [i+1+m])=_
 rw[aai (by simpa using h)]
 simp
theorem Fe(lt:Nm->Nm->Prop)(row:List Ln)(i m:Nat):(xq lt row i m).length<=m:=by
 unfold xq
 rw[O4]
 exact aam (aaX _ _) (by rw[List.length_range'];exact XU _)
theorem Ff(lt:Nm->Nm->Prop)(row:List Ln):∀i,(Fd lt row i).length<=i*row.length
 | 0=>aaY _
 | i+1=>by
  rw[B9,YN,Nat.succ_mul]
  have:=Ff lt row i
  have:=Fe lt row i (row.length-(i+1))
  omega
open Classical in
theorem sN(T:Txt mg)(O:Ok K mg A):ig P w K mg base mK 2 A.nA A.nB ["self"] (Yd A):=by
 have xD:=@Fc P w K mg base A T O
 refine O.jJ.f.rA jG λju A0 outer s H vs Q E hr h=>?_
 obtain⟨p,al,row,rfl,S,Zk,jM,q⟩:=h
 obtain⟨dx,ah,l,h1,h2,⟨as,h4,h5⟩⟩:=id S
 have hlen:=aau h5
 have y0:row.length<=4000:=jM
 have sz:sizeLine=16777216:=aaP
 refine⟨_,(de (k7 1 jG (iB e_))
   (de (iD aaM rfl (jT rfl T.lr (a_ (gz gq (by rfl) T.jx aaL (a_ (gA (pv 0) rfl) e_)) e_)) (tL 2 jG) (fR (iD aaM rfl (BD rfl T.lr (a_ (gp iy (pv 2) f_) (a_ (gz gq (by rfl) T.jx aaL (a_ (gA (pv 0) rfl) e_)) e_))) (tL 3 jG) (fR (ip (kC (lx (xV (pv 0) O.j9 O.sA xD hr (a_ (pv 2) (a_ (pv 3) e_))))) (fR (hV (pB aa1 aa_ aba ko (pv 1) (a_ (Cv (a_ (pv 2) (a_ (pv 3) e_))) e_)))) hU)))))
   (fR (hG (pv 1))))),?_⟩
 refine FO ?_;intro _ _
 refine⟨L2.jM,λr tJ=>?_⟩
 have s1:gh H (upd H r (.lst [])):=(gh.refl H).new tJ
 have el:((as.map V.ref).length:Int)=(row.length:Int):=by rw[O4,hlen]
 refine⟨_,rfl,p,A.h_,dx,_,_,rfl,s1 _ _ h1,O.j9,O.il,lG ah l,l,_,rfl,.inl (gC.of (s1 _ _ h4)),_,rfl,by omega,by omega,?_⟩
 rw[el,abP]
 let Jv:=λ(i:Nat) (Z:St) (H2:Hp)=>∃(v2 v3:Option V)(vs:List V),Z=[rr p,rr r,v2,v3]/\gh H H2/\H2 r=some (.lst vs)/\iC H2 (Fd (Ah al) row i) vs
 refine lB Jv ⟨none,none,[],rfl,s1,b_,.nil⟩ ?_ ?_
 ·rintro i Z H2 hi ⟨v2,v3,vs,rfl,s2,k1,k2⟩
  rw[show(0:Int)+(i:Int)=(i:Int) by omega]
  refine⟨_,rfl,_,_,rfl,rfl,_,rfl,p,A.h_,dx,_,_,rfl,s2 _ _ h1,O.j9,O.il,lG ah l,l,_,rfl,.inl (gC.of (s2 _ _ h4)),_,_,rfl,⟨by omega,by omega,by omega,by omega⟩,?_⟩
  rw[el,show((row.length:Int)-((i:Int)+1)).toNat=row.length-(i+1) by omega]
  let Jv:=λ(m:Nat) (Z:St) (H3:Hp)=>∃(v3:Option V)(vs:List V),Z=[rr p,rr r,ri i,v3]/\gh H H3/\H3 r=some (.lst vs)/\iC H3 (Fd (Ah al) row i++xq (Ah al) row i m) vs
  refine lB Jv ⟨v3,vs,rfl,s2,k1,by unfold xq;simpa using k2⟩ ?_ ?_
  ·rintro m Z H3 hm ⟨v3,vs,rfl,s3,k1,k2⟩
   rw[show(i:Int)+1+(m:Int)=((i+1+m:Nat):Int) by omega]
   have hj:i+1+m<row.length:=by omega
   have ei:row[i]?=some row[i]:=UQ hi
   have ej:row[i+1+m]?=some row[i+1+m]:=UQ hj
   have tP:vs.length=(Fd (Ah al) row i++xq (Ah al) row i m).length:=(aau k2).symm
   have Pb:=Ff (Ah al) row i
   have JD:=Fe (Ah al) row i m
   have hb3:i*row.length<=4000*4000:=Nat.mul_le_mul (by omega) y0
   rw[YN] at tP
   refine⟨_,rfl,p,dx,_,rfl,s3 _ _ h1,QJ ah l,_,rfl,_,rfl,p,al,row,i,i+1+m,_,_,rfl,S.same s3,ei,ej,Zk _ (acm hj),_,rfl,?_⟩
   have j3:ltAt (Ah al) row i (i+1+m)↔Ah al row[i].nm row[i+1+m].nm:=by
    constructor
    ·rintro⟨a,b,ha,hb,z⟩
     rw[ei] at ha;rw[ej] at hb;cases ha;cases hb
     exact z
    ·exact λz=>⟨_,_,ei,ej,z⟩
   by_cases hc:Ah al row[i].nm row[i+1+m].nm
   ·rw[XZ hc]
    exact jg ⟨_,vs,rfl,s3,k1,by rw[GI _ _ _ _ (j3.mpr hc)];exact k2⟩
   ·rw[aap hc]
    refine lK ?_
    refine⟨_,rfl,.inl ⟨rfl,_,gC.of k1⟩,_,rfl,_,rfl,L2.jM,λt ht=>?_⟩
    have ntr:r≠t:=gg k1 ht
    refine⟨r,vs,_,rfl,rfl,by rw[d_ ntr];exact k1,by omega,?_⟩
    refine⟨_,vs++[.ref t],rfl,(s3.new ht).upd tJ,b_,?_⟩
    rw[IV _ _ _ _ (λz=>hc (j3.mp z)),<-aa4]
    refine ij (Paired.i4 k2 λa v ⟨b,e,hb⟩=>⟨b,e,?_⟩) ⟨t,rfl,?_⟩
    ·rw[d_ (iS hb k1 (by intro z;cases z)),d_ (gg hb ht)];exact hb
    ·rw[d_ ntr.symm,b_]
  ·rintro Z H3 ⟨v3,vs,rfl,s3,k1,k2⟩
   exact⟨_,_,vs,rfl,s3,k1,by rw[B9];exact k2⟩
 ·rintro Z H2 ⟨v2,v3,vs,rfl,s2,k1,k2⟩
  exact⟨_,rfl,q r H2 vs s2 tJ k1 (by rw[K8] at k2;exact k2)⟩
theorem GA.upd{H:Hp}{v:V}{n:Option Nm}{x:Addr}{o o':HO}(h:GA H v n)(hx:H x=some o')(ht:∀xs,o'≠.tup xs):GA (L2.upd H x o) v n:=by
 cases n with
 | none=>exact h
 | some n=>exact lI.upd h hx ht
theorem mH.upd{A:Ad}{H:Hp}{a:Addr}{l:Ln}{x:Addr}{o o':HO}(h:mH A H a l)(hx:H x=some o')(ht:∀xs,o'≠.tup xs)(hi:∀C dx fs,o'≠.ins C dx fs):mH A (L2.upd H x o) a l:=by
 obtain⟨dx,vn,vu,vl,h0,h1,h2,h3⟩:=h
 exact⟨dx,vn,vu,vl,by rw[d_ (iS h0 hx (λz=>hi _ _ _ z.symm))];exact h0,h1.upd hx ht,h2.upd hx ht,h3.upd hx ht⟩
theorem Au{A:Ad}{H:Hp}{as:List Addr}{ls:List Ln}(p:Paired (mH A H) as ls){i:Nat}{l:Ln}(h:ls[i]?=some l):∃b,(as.map V.ref)[i]?=some (.ref b)/\mH A H b l:=by
 obtain⟨b,hb,z⟩:=ir p h
 exact⟨b,by rw[aan,hb];rfl,z⟩
noncomputable def Bm(p:Pt)(k:Nat):List (Option Nm):=p.jt.map some++(p.ix.take k).flatMap λl=>[l.up,l.lo]
theorem named_eq(p:Pt):named p=(Bm p p.ix.length).filterMap id:=by
 unfold named Bm
 rw[aaD,abW,List.filterMap_map]
 congr 1
 ·induction p.jt with
  | nil=>rfl
  | cons x r ih=>rw[abD];show _=x::_;rw[<-ih]
 ·induction p.ix with
  | nil=>rfl
  | cons x r ih=>
   rw[aaV,aaV,abW,ih]
   congr 1
   cases x.up<;>cases x.lo<;>rfl
theorem Av(p:Pt)(k:Nat):(Bm p k).length<=p.jt.length+2*k:=by
 unfold Bm
 rw[YN,O4]
 have:∀(ls:List Ln),(ls.flatMap λl=>[l.up,l.lo]).length=2*ls.length:=λls=>by
  induction ls with
  | nil=>rfl
  | cons x r ih=>rw[aaV,YN,ih];simp only [aah,List.length_nil];omega
 rw[this,aaO]
 omega
def Nv(A:Ad):Sp:=λvs H Q _=>∃(a:Addr)(p:Pt),vs=[.ref a]/\om A H a p/\xp p.ix.length/\xp p.jt.length/\∀r H',gh H H'->H r=none->vT H' r (named p)->Q (.ref r) H'
theorem vY(T:Txt mg)(O:Ok K mg A):ig P w K mg base mK 1 A.pN A.pO ["patch"] (Nv A):=by
 refine O.sr.f.rA kA λju A0 outer s H vs Q E hr h=>?_
 obtain⟨a,p,rfl,⟨dx,vf,pu,cu,vo,g1,g2,⟨as,g3,UW⟩,⟨cs,g4,Sq⟩,g5⟩,G4,Fy,q⟩:=h
 have hlen:=aau UW
 have Ms:=aau Sq
 have Pc:p.ix.length<=4000:=G4
 have L1:p.jt.length<=4000:=Fy
 have sz:sizeLine=16777216:=aaP
 refine⟨_,(de (k7 1 kA (wG va (by rfl) T.xl ab7 (a_ (gA (pv 0) rfl) e_)))
   (de (iD aaM rfl (ie (gA (pv 0) rfl)) (tL 2 kA) (de (hV (pB aa1 aa_ aba ko (pv 1) (a_ (gA (pv 2) rfl) e_)))
   (fR (hV (pB aa1 aa_ aba ko (pv 1) (a_ (gA (pv 2) rfl) e_))))))
   (fR (hG (zE pI (gb kQ).names [3] rfl (ie (pv 1)) rfl (by decide+kernel) (λ_ _ _ _=>(iu (i:=3) kA.nd rfl (Or.inl rfl))) (λ_ _ _ _=>⟨_,nM (jv (s_ (pv 3))),by(try simp only [kO]);rfl⟩) (λ_ _ _ _=>zb (pv 3))))))),?_⟩
 refine FO ?_;intro _ _
 refine⟨_,rfl,a,A.g_,dx,_,_,rfl,g1,O.jn,O.jP,E5,cu,cs,rfl,.inl (gC.of g4),λl hl=>?_⟩
 have s1:gh H (upd H l (.lst cs)):=(gh.refl H).new hl
 dsimp only [l7];refine Jz ?_;intro _
 let Jv:=λ(i:Nat) (Z:St) (H2:Hp)=>∃(v:Option V)(xs:List V),Z=[rr a,rr l,v,none]/\gh H H2/\H2 l=some (.lst xs)/\Paired (GA H) xs (Bm p i)
 refine⟨_,rfl,a,A.g_,dx,_,_,rfl,s1 _ _ g1,O.jn,O.jO,E3,pu,rfl,⟨_,gC.of (s1 _ _ g3)⟩,iV (K:=K) (a:=pu) (xs:=as.map V.ref) Jv
  ⟨none,cs,rfl,s1,b_,?_⟩ (by rintro _ _ _ _ ⟨_,_,_,s2,_⟩;exact gC.of (s2 _ _ g3)) ?_ ?_⟩
 ·unfold Bm
  rw[abU,abZ,aaZ]
  clear Ms L1 Fy q g4 s1
  generalize p.jt=ms at Sq
  induction Sq with
  | nil=>exact .nil
  | cons f t ih=>exact .cons f ih
 ·rintro i v Z H2 hx ⟨v0,xs,rfl,s2,h1,h2⟩
  obtain⟨b,hb,rfl⟩:=j_ hx
  obtain⟨ln,tP,SD,vn,vu,vl,k1,k2,k3,k4⟩:=ic UW hb
  have hi:i<p.ix.length:=(List.getElem?_eq_some_iff.mp tP).1
  have hxl:xs.length<=p.jt.length+2*i:=by rw[aau h2];exact Av p i
  have e:Bm p (i+1)=Bm p i++[ln.up]++[ln.lo]:=by
   unfold Bm
   rw[take_snoc tP,abc,aaV,abZ,aa4,aa4]
   rfl
  refine⟨_,rfl,.inl ⟨rfl,_,gC.of h1⟩,_,rfl,b,A.gH,SD,_,_,rfl,s2 _ _ k1,O.iL,O.iF,GB,l,_,_,rfl,rfl,h1,by omega,?_⟩
  have s3:gh H (upd H2 l (.lst (xs++[vu]))):=s2.upd hl
  refine⟨_,rfl,.inl ⟨rfl,_,gC.of b_⟩,_,rfl,b,A.gH,SD,_,_,rfl,s3 _ _ k1,O.iL,O.iG,GD,l,_,_,rfl,rfl,b_,by rw[YN];show xs.length+1<_;omega,?_⟩
  refine⟨_,_,rfl,s3.upd hl,b_,?_⟩
  rw[e]
  exact ij (ij h2 k3) k4
 ·rintro Z H2 ⟨v0,xs,rfl,s2,h1,h2⟩
  have e0:(as.map V.ref).length=p.ix.length:=by rw[O4,hlen]
  rw[e0] at h2
  have hxl:xs.length<=p.jt.length+2*p.ix.length:=by rw[aau h2];exact Av p _
  refine⟨_,rfl,l,rfl,⟨_,gC.of h1⟩,jE (K:=K) (a:=l) (xs:=xs) (by omega) (λi ys Z H4=>∃(v3:Option V),Z=[rr a,rr l,v0,v3]/\H4=H2/\ys.length<=i/\Paired (lI H) ys (((Bm p p.ix.length).take i).filterMap id))
   ⟨none,rfl,rfl,XU _,.nil⟩ (by rintro _ _ _ _ _ ⟨_,_,e,e3,_⟩;subst e;exact⟨gC.of h1,e3⟩) ?_ ?_⟩
  ·rintro i v ys Z H4 hx ⟨v3,rfl,rfl,e3,h6⟩
   obtain⟨o,ho,hv⟩:=ic h2 hx
   refine⟨_,rfl,_,rfl,?_⟩
   rw[take_snoc ho,abW]
   cases o with
   | none=>
    rw[show v=V.jc from hv]
    exact⟨_,rfl,rfl,by omega,by simpa using h6⟩
   | some m=>
    obtain⟨t,rfl,ht⟩:=(show lI H v m from hv)
    exact⟨_,rfl,_,rfl,rfl,OH,ij h6 ⟨t,rfl,ht⟩⟩
  ·rintro ys Z H4 ⟨v3,rfl,rfl,e3,h6⟩ r tJ
   rw[aau h2,aaD,<-named_eq] at h6
   have s5:=s2.new (o:=.lst ys) tJ
   exact q r _ s5 (s2.free tJ) ⟨ys,b_,Paired.i4 h6 λ_ _ z=>z.same s5⟩
def QK(A:Ad):Sp:=λvs H Q _=>∃(a:Addr)(p:Pt),vs=[.ref a]/\om A H a p/\xp p.ix.length/\xp p.jt.length/\∀r H',gh H H'->H r=none->H' r=some (.lst (gk (ik p)))->Q (.ref r) H'
theorem B_(p:Pt):(named p).length<=p.jt.length+2*p.ix.length:=by
 rw[named_eq]
 exact aam (acg _ _) (Av p _)
theorem sO(T:Txt mg)(O:Ok K mg A):ig P w K mg base mK 2 A.nv A.nz ["patch"] (QK A):=by
 have xE:=@vY P w K mg base A T O
 refine O.oV.f.rA kG λju A0 outer s H vs Q E hr h=>?_
 obtain⟨a,p,rfl,pa,G4,Fy,q⟩:=h
 obtain⟨dx,vf,pu,cu,vo,g1,g2,g3,g4,g5⟩:=id pa
 have Pc:p.ix.length<=4000:=G4
 have L1:p.jt.length<=4000:=Fy
 have sz:sizeLine=16777216:=aaP
 have RA:=B_ p
 refine⟨_,(de (wK (j:=1) nu (gb jS).names [2] kG.nd rfl rfl rfl (ie (og O.sr xE hr (a_ (pv 0) e_))) rfl (by decide+kernel) (λ_ _ _ _=>(iu (i:=2) kG.nd rfl (Or.inl rfl))) (λ_ _ _ _=>⟨_,nM (hX Hk (jq kT (pv 2) f_ (λ_ _=>rfl)) (gA (pv 0) rfl) (iA _)),by(try simp only [kO]);rfl⟩) (λ_ _ _ _=>zb (jq kT (pv 2) f_ (λ_ _=>rfl))))
   (de (ip (jv (s_ (gA (pv 0) rfl))) (fR (hV (pB aa1 aa_ aba ko (pv 1) (a_ (gA (pv 0) rfl) e_)))) hU)
   (fR (hG (pv 1))))),?_⟩
 refine FO ?_;intro _ _
 refine⟨_,rfl,a,p,rfl,pa,G4,Fy,λn H1 s1 hn0 ⟨ns,hn1,Rf⟩=>?_⟩
 have Zl:=aau Rf
 let Jv:=λ(i:Nat) (ys:List V) (Z:St) (H4:Hp)=>∃(v2:Option V)(zs:List Str),Z=[rr a,none,v2]/\H4=H1/\ys=gk zs/\zs.length<=i/\zs=(((named p).take i).filter λn=>n.1≠p.nm).map (·.1)
 refine⟨n,rfl,⟨_,gC.of hn1⟩,jE (K:=K) (a:=n) (xs:=ns) (by omega) Jv
  ⟨none,[],rfl,rfl,rfl,XU _,rfl⟩ (by rintro _ _ _ _ _ ⟨_,zs,_,e,e2,e3,_⟩;subst e e2;exact⟨gC.of hn1,by rw[O4];exact e3⟩) ?_ ?_⟩
 ·rintro i v ys Z H4 hx ⟨v2,zs,rfl,rfl,rfl,e3,e4⟩
  obtain⟨m,hm,t,rfl,ht⟩:=ic Rf hx
  have ht0:Gf ((nk m).map kV) 0=some (V.str m.1):=gs (j:=0) rfl rfl
  refine⟨_,rfl,t,_,0,_,rfl,rfl,ox.of ht,ht0,_,rfl,a,A.g_,dx,_,_,rfl,s1 _ _ g1,O.jn,O.iU,sG,rfl,_,rfl,?_⟩
  have ed:decide (V.str m.1=V.str p.nm)=decide (m.1=p.nm):=by
   by_cases e:m.1=p.nm
   ·rw[XZ e,XZ (abd V.str e)]
   ·rw[aap e,aap λz=>e (V.str.inj z)]
  rw[ed]
  subst e4
  by_cases e:m.1=p.nm
  ·rw[XZ e]
   refine jg ⟨_,_,rfl,rfl,rfl,by omega,?_⟩
   rw[take_snoc hm,aaH,aai (by simpa using e)]
   simp
  ·rw[aap e]
   refine lK ⟨_,rfl,t,_,0,_,rfl,rfl,ox.of ht,ht0,_,_,rfl,rfl,iZ _ _,by rw[YN];show _+1<=_;omega,?_⟩
   rw[take_snoc hm,aaH,YR (by simpa using e)]
   simp
 ·rintro ys Z H4 ⟨v2,zs,rfl,rfl,rfl,e3,e4⟩ r tJ
  rw[Zl,aaD] at e4
  have s5:=s1.new (o:=.lst (gk zs)) tJ
  refine⟨_,rfl,a,A.g_,dx,_,_,rfl,s5 _ _ g1,O.jn,O.iW,tF,_,rfl,?_⟩
  unfold ik at q
  rw[<-e4] at q
  cases ho:p.other with
  | none=>
   rw[ho] at g5 q
   rw[show vo=V.jc from g5]
   exact⟨_,rfl,q r _ s5 (s1.free tJ) (by rw[b_];simp)⟩
  | some x=>
   rw[ho] at g5 q
   rw[show vo=V.str x from g5] at g1 ⊢
   refine⟨_,rfl,.inl ⟨rfl,_,gC.of b_⟩,_,rfl,a,A.g_,dx,_,_,rfl,s5 _ _ g1,O.jn,O.iW,tF,r,_,_,rfl,rfl,b_,by rw[O4];omega,?_⟩
   exact⟨_,rfl,q r _ (s5.upd (s1.free tJ)) (s1.free tJ) (by rw[b_];show _=some (HO.lst (gk (zs++[x])));rw[<-iZ])⟩
def T_(H:Hp)(a:Addr)(kn:Nat->Option Nm):Prop:=∃kvs:List (Key×V),H a=some (.dK kvs)/\∀s:Nat,match kn s with|some m=>∃v,iN kvs (Sum.inl (s:Int))=some v/\lI H v m|none=>iN kvs (Sum.inl (s:Int))=none
def Ye:Sp:=λvs H Q _=>∃(a:Addr)(n:Nat)(kn:Nat->Option Nm),vs=[.ref a,.int n]/\T_ H a kn/\n<=4000/\∀p H' xs,gh H H'->H p=none->H' p=some (.lst xs)->xs.length=n->(∀i v,xs[i]?=some v->GA H v (Hv kn (n-1-i) i))->Q (.ref p) H'
theorem Aw(T:Txt mg)(O:Ok K mg A):ig P w K mg base mK 1 A.tZ A.t_ ["kept_names","size"] Ye:=by
 refine O.yD.f.rA nY λju A0 outer s H vs Q E hr h=>?_
 obtain⟨a,n,kn,rfl,⟨kvs,h1,h2⟩,hn,q⟩:=h
 have sz:sizeLine=16777216:=aaP
 refine⟨_,(de (k7 2 nY (gp Gk (iB (a_ ui e_)) (pv 1)))
   (de (iD aaM rfl (wL rfl T.lr (a_ (gp Ct (pv 1) f_) (a_ (xO rF f_) (a_ (xO rF f_) e_)))) (tL 3 nY) (fR (wB (JY (by exact iT hr) (pv 0) (gp iy (pv 3) f_) (kK (pv 2) (gp iy (pv 3) f_)) ⟨rfl,rfl,rfl,rfl⟩) (wA (pv 2) (pv 3) set_list))))
   (fR (hG (pv 2))))),?_⟩
 refine FO ?_;intro _ _
 refine⟨L2.jM,λl hl=>?_⟩
 refine⟨_,rfl,l,_,_,rfl,rfl,b_,by omega,by omega,by simp;omega,λp hp=>?_⟩
 have nJ:p≠l:=λz=>by rw[z,b_] at hp;cases hp
 have D1:H p=none:=by rw[d_ nJ] at hp;exact hp
 have e0:(List.replicate (n:Int).toNat [V.jc]).flatten=List.replicate n V.jc:=by
  rw[abP]
  clear q hn
  induction n with
  | zero=>rfl
  | succ n ih=>rw[abp,acd,ih,abp];rfl
 rw[e0]
 have s1:gh H (upd (upd H l (.lst [V.jc])) p (.lst (List.replicate n V.jc))):=((gh.refl H).upd hl).upd D1
 refine⟨_,rfl,_,_,rfl,rfl,_,rfl,_,rfl,_,_,rfl,⟨by omega,by omega,by omega,by omega⟩,?_⟩
 rw[show((n:Int)-2 - -1).toNat=n-1 by omega]
 let Jv:=λ(m:Nat) (Z:St) (H2:Hp)=>∃(v:Option V)(xs:List V),Z=[rr a,ri n,rr p,v]/\gh H H2/\H2 p=some (.lst xs)/\xs.length=n/\∀i v,xs[i]?=some v->n-1<=i+m->GA H v (Hv kn (n-1-i) i)
 refine uo Jv ⟨none,_,rfl,s1,b_,by simp,λi v hv hi=>?_⟩ ?_ ?_
 ·have j3:i<n:=by have:=(List.getElem?_eq_some_iff.mp hv).1;simpa using this
  have:v=V.jc:=by
   have:=XY hv
   exact List.eq_of_mem_replicate this
  rw[this,show n-1-i=0 by omega]
  exact rfl
 ·rintro m Z H2 hm ⟨v0,xs,rfl,s2,k1,k2,k3⟩
  obtain⟨j,hj⟩:∃j,j+m+2=n:=⟨n-2-m,by omega⟩
  rw[show(n:Int)-2+(m:Int) * -1=(j:Int) by omega]
  have hx:xs[j+1]?=some xs[j+1]:=UQ (by omega)
  refine⟨_,rfl,a,rfl,.inl ⟨_,.inl (s2 _ _ h1)⟩,_,rfl,_,_,rfl,rfl,_,rfl,_,rfl,_,_,rfl,rfl,p,_,_,_,rfl,rfl,gC.of k1,gs (j:=j+1) (by omega) hx,_,i6.k (k:=Sum.inl ((j:Int)+1)) (s2 _ _ h1),?_⟩
  refine⟨_,rfl,_,rfl,p,_,_,j,rfl,rfl,k1,wR rfl (by omega),?_⟩
  refine⟨_,_,rfl,s2.upd D1,b_,by rw[acq];exact k2,λi v hv hi=>?_⟩
  by_cases e:i=j
  ·subst e
   rw[abz (by omega)] at hv
   have hv:=aaE hv
   rw[<-hv,show n-1-i=(n-1-(i+1))+1 by omega]
   unfold Hv
   have h3:=h2 (i+1)
   rw[show((i+1:Nat):Int)=(i:Int)+1 by omega] at h3
   cases hk:kn (i+1) with
   | none=>
    rw[hk] at h3
    rw[h3]
    exact k3 (i+1) _ hx (by omega)
   | some mm=>
    rw[hk] at h3
    obtain⟨u,z1,z2⟩:=h3
    rw[z1]
    exact z2
  ·rw[abI (λz=>e z.symm)] at hv
   exact k3 i v hv (by omega)
 ·rintro Z H2 ⟨v0,xs,rfl,s2,k1,k2,k3⟩
  exact⟨_,rfl,q p H2 xs s2 D1 k1 k2 λi v hv=>k3 i v hv (by omega)⟩
def Yf(K:Qqy)(A:Ad):Sp:=λvs H Q _=>∃(x:Str)(t a:Addr)(texts:List Str)(kn:Nat->Option Nm),vs=[.str x,.ref t,.ref a]/\gC K H t (gk texts)/\(∀H',gh H H'->gC K H' t (gk texts))/\T_ H a kn/\texts.length<=4000/\∀p H',gh H H'->H p=none->oj A H' p (kj x texts kn)->Q (.ref p) H'
theorem Df(T:Txt mg)(O:Ok K mg A):ig P w K mg base mK 3 A.ye A.yf ["patch","texts","kept_names"] (Yf K A):=by
 have BB:=@Aw P w K mg base A T O
 have y4:=@De P w K mg base A T O
 refine O.BZ.f.rA jH λju A0 outer s H vs Q E hr h=>?_
 obtain⟨x,t,a,texts,kn,rfl,_,ht,hkn,hn,q⟩:=h
 have sz:sizeLine=16777216:=aaP
 have et:((gk texts).length:Int)=(texts.length:Int):=by simp
 obtain⟨kvs,h1,h2⟩:=id hkn
 refine⟨_,(de (k7 3 jH (og O.yD BB hr (a_ (pv 2) (a_ (gz gq (by rfl) T.jx aaL (a_ (pv 1) e_)) e_))))
   (de (k7 4 jH (iB e_))
   (de (k7 5 jH ui)
   (de (iD aaM rfl (M6 rfl T.EV (a_ (pv 1) e_)) (JH rfl (uT (tL 6 jH) (uT (tL 7 jH) Hg))) (fR (ip (jv (o3 (by exact iT hr) (pv 6) (pv 2))) (fR (k7 5 jH (zO hr (pv 2) (pv 6)))) (de (hV (pB aa1 aa_ aba ko (pv 4) (a_ (uY O.Qw y4 (hr.mono (by decide)) (by rfl) O.Qx O.ud.b .nil pE (a_ (Cv (a_ (pv 0) (a_ (gz gq (by rfl) T.jx aaL (a_ (pv 4) e_)) e_))) (a_ (pv 7) (a_ (pv 5) (a_ (kK (pv 3) (pv 6)) e_))))) e_)))
   (fR (k7 5 jH (gA (kK (pv 4) (xO rF f_)) rfl)))))))
   (fR (hG (pv 4))))))),?_⟩
 refine R6 ?_;intro _ _ _ _
 refine⟨_,rfl,_,rfl,t,_,rfl,.inl (ht H (gh.refl H)),?_⟩
 rw[et]
 refine⟨a,texts.length,kn,rfl,hkn,hn,λb H1 bs s1 Fz Pb O1 U5=>?_⟩
 refine⟨L2.jM,λl hl=>?_⟩
 have YS:H l=none:=s1.free hl
 have s2:gh H1 (upd H1 l (.lst [])):=(gh.refl H1).new hl
 refine⟨_,rfl,t,rfl,⟨_,ht _ (s1.trans s2)⟩,Kz (K:=K) (a:=t) (xs:=gk texts) (λi Z H2=>∃(v6 v7:Option V)(vu:V)(u:Option Nm)(as:List Addr)(acc:List Ln),Z=[rs x,rr t,rr a,rr b,rr l,some vu,v6,v7]/\gh H1 H2/\H2 l=some (.lst (as.map V.ref))/\Paired (mH A H2) as acc/\acc.length<=i/\GA H2 vu u/\acc++qt x kn i acc.length u (texts.drop i)=kj x texts kn)
  ⟨none,none,.jc,none,[],[],rfl,s2,b_,.nil,XU _,rfl,rfl⟩ (by rintro _ _ _ _ ⟨_,_,_,_,_,_,_,s3,_⟩;exact ht _ (s1.trans s3)) ?_ ?_⟩
 ·rintro i tv e Z H2 hx ⟨v6,v7,vu,u,as,acc,rfl,s3,k1,k2,k3,k4,k5⟩ he
  obtain⟨tx,htx,rfl⟩:=lO hx
  have hi:i<texts.length:=(List.getElem?_eq_some_iff.mp htx).1
  have hd:texts.drop i=tx::texts.drop (i+1):=by rw[aa6 hi];congr 1;exact(List.getElem?_eq_some_iff.mp htx).2
  have s4:gh H2 (upd H2 e (.tup [.int i,.str tx])):=(gh.refl H2).new he
  have Pd:=s3.trans s4
  rw[hd] at k5
  unfold qt at k5
  refine⟨e,_,rfl,ox.of b_,rfl,_,_,rfl,_,_,rfl,rfl,?_⟩
  refine⟨_,rfl,_,rfl,a,_,rfl,i6.k (k:=Sum.inl (i:Int)) (Pd _ _ (s1 _ _ h1)),_,rfl,?_⟩
  have h3:=h2 i
  cases hk:kn i with
  | some m=>
   rw[hk] at h3 k5
   obtain⟨u',z1,z2⟩:=h3
   rw[z1]
   refine lK ⟨_,rfl,_,rfl,a,u',rfl,?_,?_⟩
   ·have:=i6.k (k:=Sum.inl (i:Int)) (Pd _ _ (s1 _ _ h1))
    rw[z1] at this
    exact this
   ·exact⟨_,_,_,some m,as,acc,rfl,Pd,s4 _ _ k1,Paired.i4 k2 λ_ _ z=>z.same s4,by omega,(z2.same s1).same Pd,k5⟩
  | none=>
   rw[hk] at h3 k5
   rw[h3]
   have Zk:=aau k2
   have el:((as.map V.ref).length:Int)=(acc.length:Int):=by rw[O4,Zk]
   refine jg ⟨_,rfl,.inl ⟨rfl,_,gC.of (s4 _ _ k1)⟩,_,rfl,_,rfl,l,_,rfl,.inl (gC.of (s4 _ _ k1)),?_⟩
   rw[el]
   refine⟨L2.jM,λnt hnt=>?_⟩
   have s5:=Pd.new (o:=.tup [.str x,.int acc.length]) hnt
   obtain⟨bv,hbv⟩:∃bv,bs[i]?=some bv:=⟨_,UQ (by omega)⟩
   refine⟨_,rfl,_,rfl,_,rfl,_,rfl,b,_,_,_,rfl,rfl,gC.of (s5 _ _ Pb),gs rfl hbv,?_⟩
   intro o dx no RC Zm
   have RD:gh (upd (upd H2 e (.tup [.int i,.str tx])) nt (.tup [.str x,.int acc.length])) (upd (upd (upd (upd H2 e (.tup [.int i,.str tx])) nt (.tup [.str x,.int acc.length])) dx (.own o)) o (.ins A.gH dx [])):=λc u e=>by
    rw[d_ (gg e no),d_ (gg e RC)]
    exact e
   refine⟨o,dx,_,_,_,_,rfl,b_,λH6 r6 r7=>⟨rfl,?_⟩⟩
   have s6:gh (upd (upd H2 e (.tup [.int i,.str tx])) nt (.tup [.str x,.int acc.length])) H6:=λc u ec=>by
    rw[r6 c (gg ec no)]
    exact RD c u ec
   have Vl:gh H2 H6:=(s4.new hnt).trans s6
   have Vm:=Vl _ _ k1
   have MK:mH A H6 o ⟨(x,acc.length),tx,u,Hv kn (texts.drop (i+1)).length i⟩:=⟨dx,.ref nt,vu,bv,r7,⟨nt,rfl,s6 _ _ b_⟩,k4.same Vl,by
    have:=U5 i bv hbv
    rw[List.length_drop,show texts.length-(i+1)=texts.length-1-i by omega]
    exact(this.same s1).same (s3.trans Vl)⟩
   refine⟨l,_,_,rfl,rfl,Vm,by rw[O4];omega,?_⟩
   have lo:l≠o:=λz=>by rw[z,r7] at Vm;cases Vm
   have e7:upd H6 l (.lst (as.map V.ref++[V.ref o])) l=some (.lst ((as++[o]).map V.ref)):=by rw[b_,aaG];rfl
   have up:∀c ln,mH A H6 c ln->mH A (upd H6 l (.lst (as.map V.ref++[V.ref o]))) c ln:=λc ln z=>z.upd Vm (λ_ z=>by cases z) (λ_ _ _ z=>by cases z)
   have r77:upd H6 l (.lst (as.map V.ref++[V.ref o])) o=some (.ins A.gH dx (Nk (.ref nt) (.str tx) vu bv)):=by rw[d_ lo.symm];exact r7
   refine⟨_,rfl,_,rfl,l,_,_,_,rfl,rfl,gC.of b_,En _ _,o,A.gH,dx,_,_,rfl,r77,O.iL,O.gF,iY,?_⟩
   refine⟨_,_,_,some (x,acc.length),as++[o],acc++[⟨(x,acc.length),tx,u,Hv kn (texts.drop (i+1)).length i⟩],rfl,(s3.trans Vl).upd hl,e7,?_,OH,?_,?_⟩
   ·exact ij (Paired.i4 k2 λc ln z=>up c ln (z.same Vl)) (up _ _ MK)
   ·exact lI.upd ⟨nt,rfl,s6 _ _ b_⟩ Vm (λ_ z=>by cases z)
   ·rw[aa4,YN]
    exact k5
 ·rintro Z H2 ⟨v6,v7,vu,u,as,acc,rfl,s3,k1,k2,k3,k4,k5⟩
  rw[show(gk texts).length=texts.length by simp,acE] at k5
  rw[show qt x kn texts.length acc.length u []=[] from rfl,aaZ] at k5
  rw[k5] at k2
  exact⟨_,rfl,q l H2 (s1.trans s3) YS ⟨as,k1,k2⟩⟩
theorem HB{row:List Ln}{q:Nat×Nat}:∀{xs:List (Nat×Nat)},q.2∉xs.map (·.2)->∀s,l5 row (xs++[q]) s=if q.2=s then(row[q.1]?).map (·.nm) else l5 row xs s
 | [],_,s=>rfl
 | x::r,h,s=>by
  rw[aaK] at h
  have h1:q.2≠x.2:=λz=>h (by rw[z];exact aaC)
  have h2:q.2∉r.map (·.2):=λz=>h (aal _ z)
  show(if x.2=s then _ else l5 row (r++[q]) s)=if q.2=s then _ else(if x.2=s then _ else l5 row r s)
  by_cases e:x.2=s
  ·rw[aax e,aav (λz=>h1 (by rw[z,e])),aax e]
  ·rw[aav e,aav e,HB h2 s]
theorem IW{row:List Ln}{q:Nat×Nat}{l:Ln}(xs:List (Nat×Nat))(h:row[q.1]?=some l):qr row (xs++[q])=qr row xs++[l.nm]:=by
 unfold qr
 rw[abW,abD,h]
 rfl
theorem K9(T:Txt mg)(O:Ok K mg A):ig P w K mg base mK 3 A.KP A.KQ ["old","new"] Kp.spK:=
 Kp.Nt O.kept.f ⟨T.jx,T.lr,T.TN⟩ O.sj.f O.sj.b O.sj.m O.uA.f O.uA.b O.uA.m O.uB.f O.uB.b O.uB.m
def Ua(A:Ad):Sp:=λvs H Q _=>∃(x f:Str)(r t:Addr)(row:List Ln)(texts:List Str),vs=[.str x,.str f,.ref r,.ref t]/\oj A H r row/\H t=some (.lst (gk texts))/\row.length<=1000/\texts.length<=1000/\
 ∀p H',gh H H'->H p=none->om A H' p (jW x f row texts)->Q (.ref p) H'
theorem vZ(T:Txt mg)(O:Ok K mg A):ig P w K mg base mK 4 A.pW A.pX ["patch","file","row","texts"] (Ua A):=by
 have RE:=@K9 P w K mg base A T O
 have FA:=@Df P w K mg base A T O
 have j0:=@o9 P w K mg base A T O
 refine O.sC.f.rA iI λju A0 outer s H vs Q E hr h=>?_
 obtain⟨x,f,r,t,row,texts,rfl,BA,ht,hn,hm,q⟩:=h
 obtain⟨as,xF,zo⟩:=id BA
 have hlen:=aau zo
 have sz:sizeLine=16777216:=aaP
 refine⟨_,(de (k7 4 iI nK)
   (de (ly (i:=5) iI.nd rfl (Or.inr rfl) mE)
   (de (iD aaM rfl (ie (og O.kept RE hr (a_ (tS mr (gb jX).names [9] rfl (ie (pv 2)) rfl (by decide+kernel) (λ_ _ _ _=>(iu (i:=9) iI.nd rfl (Or.inl rfl))) (λ_ _ _ _=>lM) (λ_ _ _ _=>zb (gA (pv 9) rfl))) (a_ (pv 3) e_)))) (JH rfl (uT (tL 6 iI) (uT (tL 7 iI) Hg))) (de (jB (by exact iT hr) (pv 4) (pv 7) (gA (kK (pv 2) (pv 6)) rfl) rfl)
   (fR (jB (by exact iT hr) (pv 5) (gA (kK (pv 2) (pv 6)) rfl) kc rfl))))
   (de (wK (j:=8) mr (gb jX).names [9] iI.nd rfl rfl rfl (ie (pv 2)) rfl (by decide+kernel) (λ_ _ _ _=>(iu (i:=9) iI.nd rfl (Or.inl rfl))) (λ_ _ _ _=>⟨_,nM (jv (lC (by exact iT hr) (gA (pv 9) rfl) (pv 5))),by(try simp only [kO]);rfl⟩) (λ_ _ _ _=>zb (gA (pv 9) rfl)))
   (fR (hG (uY O.C3 j0 (hr.mono (by decide)) (by rfl) O.C4 O.lY.b .nil pE (a_ (pv 0) (a_ (pv 1) (a_ (og O.BZ FA hr (a_ (pv 0) (a_ (pv 3) (a_ (pv 4) e_)))) (a_ (pv 8) (a_ ui e_)))))))))))),?_⟩
 refine R6 ?_;intro _ _ _ _
 intro k SE g WR
 have Zn:k≠g:=λz=>by rw[<-z,b_] at WR;cases WR
 have hgH:H g=none:=(gh.refl H |>.new (o:=.dK []) SE).free WR
 have s1:gh H (upd (upd H k (.dK [])) g (.dT [])):=((gh.refl H).new SE).new WR
 have Vn:(upd (upd H k (.dK [])) g (.dT [])) k=some (.dK []):=by rw[d_ Zn];exact b_
 have O0:(upd (upd H k (.dK [])) g (.dT [])) g=some (.dT []):=b_
 generalize upd (upd H k (.dK [])) g (.dT [])=H1 at s1 Vn O0
 have N9:(as.map V.ref).length<=sizeLine:=by rw[O4,hlen];omega
 let Jv:=λ(i:Nat) (ys:List V) (Z:St) (H4:Hp)=>∃(v9:Option V),Z=[rs x,rs f,rr r,rr t,rr k,rr g,none,none,none,v9]/\H4=H1/\ys=gk ((row.take i).map (·.tx))
 refine⟨_,rfl,r,rfl,⟨_,gC.of (s1 _ _ xF)⟩,jE (K:=K) (a:=r) (xs:=as.map V.ref) N9 Jv
  ⟨none,rfl,rfl,rfl⟩ (by rintro _ _ _ _ _ ⟨_,_,e,e2⟩;subst e e2;exact⟨gC.of (s1 _ _ xF),by rw[O4,O4,aaO];omega⟩) ?_ ?_⟩
 ·rintro i v ys Z H4 hx ⟨v9,rfl,rfl,rfl⟩
  obtain⟨b,hb,rfl⟩:=j_ hx
  obtain⟨ln,tP,dx,vn,vu,vl,k1,k2,k3,k4⟩:=ic zo hb
  refine⟨_,rfl,b,A.gH,dx,_,_,rfl,s1 _ _ k1,O.iL,O.jK,Aq,_,rfl,rfl,?_⟩
  rw[take_snoc tP,aaG,iZ]
  rfl
 ·rintro ys Z H4 ⟨v9,rfl,rfl,rfl⟩ o WS
  rw[O4,hlen,aaD]
  have s2:gh H4 (upd H4 o (.lst (gk (row.map (·.tx))))):=(gh.refl H4).new WS
  refine⟨_,rfl,row.map (·.tx),texts,o,t,rfl,b_,s2 _ _ (s1 _ _ ht),by rw[O4];exact hn,hm,λpr H5 ps s5 Ju Vo RF=>?_⟩
  have Vp:gh H4 H5:=s2.trans s5
  have s05:gh H H5:=s1.trans Vp
  have rise:=pH (row.map (·.tx)) texts
  rw[O4] at rise
  have Zo:(K01.kept (row.map (·.tx)) texts).length<=1000:=by
   rw[K01.xW]
   have:=K01.EE (row.map (·.tx)) texts
   rw[O4] at this
   omega
  generalize Zp:K01.kept (row.map (·.tx)) texts=qs at RF rise Zo
  have HZ:=aau RF
  let Jv:=λ(i:Nat) (Z:St) (H6:Hp)=>∃(v6 v7:Option V)(kk:List (Key×V))(kg:List (List Key×V)),Z=[rs x,rs f,rr r,rr t,rr k,rr g,v6,v7,none,none]/\(∀b o,H5 b=some o->b≠k->b≠g->H6 b=some o)/\H6 k=some (.dK kk)/\kk.length<=i/\(∀s:Nat,match l5 row (qs.take i) s with|some m=>∃v,iN kk (Sum.inl (s:Int))=some v/\lI H v m|none=>iN kk (Sum.inl (s:Int))=none)/\H6 g=some (.dT kg)/\kg.length<=i/\R_ kg (qr row (qs.take i))
  refine⟨pr,rfl,⟨_,gC.of Vo⟩,iV (K:=K) (a:=pr) (xs:=ps) Jv
   ⟨none,none,[],[],rfl,λb o e _ _=>e,Vp _ _ Vn,XU _,(λs=>by rw[abU];exact rfl),Vp _ _ O0,XU _,(λn=>rfl)⟩ (by rintro _ _ _ _ ⟨_,_,_,_,_,e,_⟩;exact gC.of (e _ _ Vo (λz=>by rw[z] at Ju;rw[s2 _ _ Vn] at Ju;cases Ju) (λz=>by rw[z] at Ju;rw[s2 _ _ O0] at Ju;cases Ju))) ?_ ?_⟩
  ·rintro i v Z H6 hx ⟨v6,v7,kk,kg,rfl,e1,e2,e3,e4,e5,e6,e7⟩
   obtain⟨qq,hq,pt,rfl,Mu⟩:=ir RF hx
   have Zq:H5 k=some (.dK []):=Vp _ _ Vn
   have Zr:H5 g=some (.dT []):=Vp _ _ O0
   have hi:i<qs.length:=(List.getElem?_eq_some_iff.mp hq).1
   obtain⟨Pb,JD⟩:=rise.2 qq (XY hq)
   obtain⟨b,SA,ln0⟩:=Au zo (UQ Pb)
   have Dx:row[qq.1]?=some row[qq.1]:=UQ Pb
   generalize row[qq.1]=ln at ln0 Dx
   obtain⟨dx,vn,vu,vl,z1,⟨nt,rfl,z2⟩,z3,z4⟩:=ln0
   have up:∀{b o},H b=some o->H6 b=some o:=λ{b o} e=>e1 b o (s05 _ _ e) (λz=>by rw[z,SE] at e;cases e) (λz=>by rw[z,hgH] at e;cases e)
   refine⟨pt,_,rfl,ox.of (e1 _ _ Mu (iS Mu Zq (λz=>by cases z)) (iS Mu Zr (λz=>by cases z))),rfl,_,_,rfl,_,_,rfl,rfl,?_⟩
   refine⟨_,rfl,_,rfl,r,_,_,_,rfl,rfl,gC.of (up xF),gs rfl SA,b,A.gH,dx,_,_,rfl,up z1,O.iL,O.gF,iY,_,rfl,_,rfl,k,_,rfl,nE.k (k:=Sum.inl (qq.2:Int)) e2 (by omega),?_⟩
   have Zs:∀{b o},H b=some o->upd H6 k (.dK (putK kk (Sum.inl (qq.2:Int)) (V.ref nt))) b=some o:=λ{b o} e=>by rw[d_ (λz=>by rw[z,SE] at e;cases e)];exact up e
   have N5:=jr kk (Sum.inl (qq.2:Int):Key) (V.ref nt)
   have FQ:=jr kg (nk ln.nm) (V.bl true)
   refine⟨_,rfl,_,rfl,_,rfl,r,_,_,_,rfl,rfl,gC.of (Zs xF),gs rfl SA,b,A.gH,dx,_,_,rfl,Zs z1,O.iL,O.gF,iY,g,_,rfl,nE.t (k:=nk ln.nm) (by rw[d_ Zn.symm];exact e5) (Zs z2) (by omega),?_⟩
   have Ob:qq.2∉(qs.take i).map (·.2):=λz=>by
    obtain⟨w1,Zt,ew⟩:=List.mem_map.mp z
    obtain⟨j,hj⟩:=aaT.mp Zt
    have Jt:j<i:=by have:=(List.getElem?_eq_some_iff.mp hj).1;rw[aaO] at this;omega
    rw[ab_,aax Jt] at hj
    obtain⟨hj1,hj2⟩:=List.getElem?_eq_some_iff.mp hj
    have:=aa7.mp rise.1 j i hj1 hi Jt
    rw[hj2,(List.getElem?_eq_some_iff.mp hq).2] at this
    omega
   refine⟨_,_,_,_,rfl,λb o e nk ng=>?_,by rw[d_ Zn];exact b_,by omega,λs=>?_,b_,by omega,?_⟩
   ·rw[d_ ng,d_ nk];exact e1 b o e nk ng
   ·rw[take_snoc hq,HB Ob,ke]
    by_cases es:qq.2=s
    ·subst es
     rw[aax rfl,aax rfl,Dx]
     exact⟨_,rfl,nt,rfl,z2⟩
    ·rw[aav es,aav (λz=>es (by have:=Sum.inl.inj z;omega))]
     exact e4 s
   ·rw[take_snoc hq,IW _ Dx]
    exact e7.put ln.nm _
  ·rintro Z H6 ⟨v6,v7,kk,kg,rfl,e1,e2,e3,e4,e5,e6,e7⟩
   rw[<-HZ,aaD] at e4 e7
   have up:∀{b o},H b=some o->H6 b=some o:=λ{b o} e=>e1 b o (s05 _ _ e) (λz=>by rw[z,SE] at e;cases e) (λz=>by rw[z,hgH] at e;cases e)
   have sH6:gh H H6:=λb o e=>up e
   refine⟨_,rfl,r,rfl,⟨_,gC.of (up xF)⟩,jE (K:=K) (a:=r) (xs:=as.map V.ref) N9 (λi ys Z H4=>∃(v9:Option V),Z=[rs x,rs f,rr r,rr t,rr k,rr g,v6,v7,none,v9]/\H4=H6/\ys.length<=i/\Paired (lI H) ys (((row.take i).filter λl=>l.nm∉qr row qs).map (·.nm)))
    ⟨none,rfl,rfl,XU _,.nil⟩ (by rintro _ _ _ _ _ ⟨_,_,e,e20,_⟩;rw[e];exact⟨gC.of (up xF),e20⟩) ?_ ?_⟩
   ·rintro i v ys Z H7 hx ⟨v9,rfl,rfl,e8,e9⟩
    obtain⟨b,hb,rfl⟩:=j_ hx
    obtain⟨ln,tP,dx,vn,vu,vl,k1,⟨nt,rfl,k2⟩,k3,k4⟩:=ic zo hb
    refine⟨_,rfl,b,A.gH,dx,_,_,rfl,up k1,O.iL,O.gF,iY,_,rfl,g,_,rfl,i6.t (k:=nk ln.nm) e5 (up k2),_,rfl,?_⟩
    rw[e7 ln.nm,take_snoc tP,aaH,aaG]
    by_cases qR:ln.nm∈qr row qs
    ·rw[XZ qR]
     refine jg ⟨_,rfl,rfl,by omega,?_⟩
     rw[aai (by simpa using qR),aa2,List.map_nil,aaZ]
     exact e9
    ·rw[aap qR]
     refine lK ⟨_,rfl,b,A.gH,dx,_,_,rfl,up k1,O.iL,O.gF,iY,_,rfl,rfl,OH,?_⟩
     rw[YR (by simpa using qR),aa2]
     exact ij e9 ⟨nt,rfl,k2⟩
   ·rintro ys Z H7 ⟨v9,rfl,rfl,e8,e9⟩ c SF
    rw[O4,hlen,aaD] at e9
    have s8:=sH6.new (o:=.lst ys) SF
    have Y_:c≠k:=λz=>by rw[z,e2] at SF;cases SF
    refine⟨_,rfl,_,rfl,_,rfl,_,rfl,_,rfl,x,t,k,texts,l5 row qs,rfl,gC.of (s8 _ _ ht),λH' s'=>gC.of (s' _ _ (s8 _ _ ht)),⟨kk,by rw[d_ Y_.symm];exact e2,λs=>?_⟩,by omega,λpu H9 s9 hpu0 Zu=>?_⟩
    ·have:=e4 s
     cases ek:l5 row qs s with
     | none=>rw[ek] at this;exact this
     | some m=>rw[ek] at this;obtain⟨v,w1,w2⟩:=this;exact⟨v,w1,w2.same s8⟩
    ·refine⟨_,rfl,?_⟩
     intro o dx no RC Zm
     refine⟨o,dx,_,_,_,_,_,rfl,b_,λy6 r6 r7=>⟨rfl,?_⟩⟩
     have FR:gh H9 y6:=λc u ec=>by
      rw[r6 c (gg ec no),d_ (gg ec no),d_ (gg ec RC)]
      exact ec
     have Vq:=(s8.trans s9).trans FR
     refine q o y6 Vq ((s8.trans s9).free no) ?_
     unfold jW
     rw[Zp]
     exact⟨dx,_,pu,c,.jc,r7,rfl,Zu.same FR,⟨ys,FR _ _ (s9 _ _ b_),Paired.i4 e9 λ_ _ z=>z.same Vq⟩,rfl⟩
def l9:Str:=Str.ofString "abcdefghijklmnopqrstuvwxyz0123456789"
def Good(x:Str):Prop:=1<=x.length/\x.length<=12/\∀c∈x.cps.toList,c∈l9.cps.toList
def kW(x:Str):Prop:=(reprText x).length<=1048576/\x.length<=1000
abbrev sk(x:Str):Key:=Sum.inr x
theorem Ax{x:Str}{l:List Str}:sk x∈l.map sk↔x∈l:=by
 constructor
 ·intro h
  obtain⟨m,hm,e⟩:=List.mem_map.mp h
  rw[<-acF e];exact hm
 ·exact λh=>aae h
theorem ku{dk:List (Key×V)}{l:List Str}(h:dk.map (·.1)=l.map sk):dk.length=l.length:=by
 have:=abd List.length h
 rwa [O4,O4] at this
theorem xr{dk:List (Key×V)}{l:List Str}(h:dk.map (·.1)=l.map sk){i:Nat}{k:Key}{v:V}(hi:dk[i]?=some (k,v)):∃x,l[i]?=some x/\k=sk x:=by
 have h1:(dk.map (·.1))[i]?=some k:=by rw[aan,hi];rfl
 rw[h,aan] at h1
 obtain⟨n,e,e2⟩:=Option.map_eq_some_iff.mp h1
 exact⟨n,e,e2.symm⟩
theorem kx{dk:List (Key×V)}{l:List Str}(h:dk.map (·.1)=l.map sk)(x:Str):(iN dk (sk x)).isSome=decide (x∈l):=by
 by_cases m:x∈l
 ·rw[XZ m];exact tG.mpr (by rw[h];exact Ax.mpr m)
 ·rw[aap m,ab2];exact λz=>m (Ax.mp (by rw[<-h];exact tG.mp z))
theorem p8{dk:List (Key×V)}{l:List Str}(h:dk.map (·.1)=l.map sk){x:Str}(hx:x∉l)(v:V):(putK dk (sk x) v).map (·.1)=(l++[x]).map sk:=by
 rw[p7,h,aav (λz=>hx (Ax.mp z)),aaG];rfl
noncomputable def A6(m n h:Addr):List (Str×V):=[("made",.ref m),("needs",.ref n),("held",.ref h)]
theorem QL(m n h:Addr):jD "held" (.ref h) (jD "needs" (.ref n) (jD "made" (.ref m) []))=A6 m n h:=by kernel_rfl
theorem k_(m n h:Addr):(A6 m n h).lookup ("held":Str)=some (V.ref h):=by kernel_rfl
theorem p_(m n h:Addr):(A6 m n h).lookup ("made":Str)=some (V.ref m):=by kernel_rfl
theorem tH(m n h:Addr):(A6 m n h).lookup ("needs":Str)=some (V.ref n):=by kernel_rfl
structure Dp where
 dx:Addr
 m:Addr
 n:Addr
 h:Addr
 ha:Str->Addr
 kM:List (Key×V)
 kN:List (Key×V)
 kH:List (Key×V)
structure OK(A:Ad)(H:Hp)(d:Addr)(D:Dk)(W:Addr->Prop)(Y:Dp):Prop where
 hd:H d=some (.ins A.gn Y.dx (A6 Y.m Y.n Y.h))
 hm:H Y.m=some (.dK Y.kM)
 hn:H Y.n=some (.dK Y.kN)
 hh:H Y.h=some (.dK Y.kH)
 mn:Y.m≠Y.n
 mh:Y.m≠Y.h
 nh:Y.n≠Y.h
 wm:W Y.m
 wn:W Y.n
 wh:W Y.h
 km:Y.kM.map (·.1)=D.names.map sk
 vm:∀p∈D.made,∃a,iN Y.kM (sk p.nm)=some (.ref a)/\om A H a p
 kn:Y.kN.map (·.1)=D.names.map sk
 vn:∀x∈D.names,∃(a:Addr)(kv:List (Key×V))(l:List Str),iN Y.kN (sk x)=some (.ref a)/\¬W a/\H a=some (.dK kv)/\kv.map (·.1)=l.map sk/\l.Nodup/\∀y,y∈l↔y∈D.iE x
 kh:Y.kH.map (·.1)=D.stores.map sk
 vh:∀s∈D.stores,iN Y.kH (sk s)=some (.ref (Y.ha s))/\W (Y.ha s)/\Y.ha s≠Y.m/\Y.ha s≠Y.n/\Y.ha s≠Y.h/\∃kv:List (Key×V),H (Y.ha s)=some (.dK kv)/\kv.map (·.1)=(D.held s).map sk
 inj:∀s∈D.stores,∀t∈D.stores,Y.ha s=Y.ha t->s=t
 dk:∀b,W b->∃kv,H b=some (.dK kv)
def ib(A:Ad)(H:Hp)(d:Addr)(D:Dk)(W:Addr->Prop):Prop:=∃Y,OK A H d D W Y
theorem OK.same{A:Ad}{H H':Hp}{d:Addr}{D:Dk}{W:Addr->Prop}{Y:Dp}(x:OK A H d D W Y)(s:gh H H'):OK A H' d D W Y where
 hd:=s _ _ x.hd
 hm:=s _ _ x.hm
 hn:=s _ _ x.hn
 hh:=s _ _ x.hh
 mn:=x.mn
 mh:=x.mh
 nh:=x.nh
 wm:=x.wm
 wn:=x.wn
 wh:=x.wh
 km:=x.km
 vm:=λp hp=>by obtain⟨a,h1,h2⟩:=x.vm p hp;exact⟨a,h1,h2.same s⟩
 kn:=x.kn
 vn:=λy hy=>by obtain⟨a,kv,l,h1,h2,h3,h4⟩:=x.vn y hy;exact⟨a,kv,l,h1,h2,s _ _ h3,h4⟩
 kh:=x.kh
 vh:=λt ht=>by obtain⟨h1,h2,h3,h4,h5,kv,h6,h7⟩:=x.vh t ht;exact⟨h1,h2,h3,h4,h5,kv,s _ _ h6,h7⟩
 inj:=x.inj
 dk:=λb hb=>by obtain⟨kv,h⟩:=x.dk b hb;exact⟨kv,s _ _ h⟩
theorem ib.same{A:Ad}{H H':Hp}{d:Addr}{D:Dk}{W:Addr->Prop}(x:ib A H d D W)(s:gh H H'):ib A H' d D W:=by
 obtain⟨Y,x⟩:=x
 exact⟨Y,x.same s⟩
def oW(W:Addr->Prop)(H H':Hp):Prop:=∀b o,H b=some o->¬W b->H' b=some o
theorem oW.of{W:Addr->Prop}{H H':Hp}(s:gh H H'):oW W H H':=λb o e _=>s b o e
theorem ib.lst{A:Ad}{H:Hp}{d a:Addr}{D:Dk}{W:Addr->Prop}{xs:List V}(x:ib A H d D W)(h:H a=some (.lst xs)):¬W a:=λz=>by
 obtain⟨Y,x⟩:=x
 obtain⟨kv,e⟩:=x.dk a z
 rw[h] at e;cases e
theorem ib.tup{A:Ad}{H:Hp}{d a:Addr}{D:Dk}{W:Addr->Prop}{xs:List V}(x:ib A H d D W)(h:H a=some (.tup xs)):¬W a:=λz=>by
 obtain⟨Y,x⟩:=x
 obtain⟨kv,e⟩:=x.dk a z
 rw[h] at e;cases e
theorem ib.jc{A:Ad}{H:Hp}{d a:Addr}{D:Dk}{W:Addr->Prop}(x:ib A H d D W)(h:H a=none):¬W a:=λz=>by
 obtain⟨Y,x⟩:=x
 obtain⟨kv,e⟩:=x.dk a z
 rw[h] at e;cases e
theorem jz{m n h:Addr}:(A6 m n h).lookup ("check_store":Str)=none:=by kernel_rfl
theorem qM{m n h:Addr}:(A6 m n h).lookup ("check_new":Str)=none:=by kernel_rfl
theorem o_{m n h:Addr}:(A6 m n h).lookup ("check_held":Str)=none:=by kernel_rfl
theorem Bn{m n h:Addr}:(A6 m n h).lookup ("check_made":Str)=none:=by kernel_rfl
theorem Dg{m n h:Addr}:(A6 m n h).lookup ("keep":Str)=none:=by kernel_rfl
theorem qN{m n h:Addr}:(A6 m n h).lookup ("has":Str)=none:=by kernel_rfl
theorem Bo{m n h:Addr}:(A6 m n h).lookup ("patches_of":Str)=none:=by kernel_rfl
theorem oX{m n h:Addr}:(A6 m n h).lookup ("sight_of":Str)=none:=by kernel_rfl
theorem GJ{m n h:Addr}:(A6 m n h).lookup ("row":Str)=none:=by kernel_rfl
theorem sP{m n h:Addr}:(A6 m n h).lookup ("quarrels":Str)=none:=by kernel_rfl
theorem K_{m n h:Addr}:(A6 m n h).lookup ("leans":Str)=none:=by kernel_rfl
theorem La{m n h:Addr}:(A6 m n h).lookup ("begin":Str)=none:=by kernel_rfl
theorem Ca{m n h:Addr}:(A6 m n h).lookup ("record":Str)=none:=by kernel_rfl
theorem Lb{m n h:Addr}:(A6 m n h).lookup ("cut":Str)=none:=by kernel_rfl
theorem Nw{m n h:Addr}:(A6 m n h).lookup ("back":Str)=none:=by kernel_rfl
theorem Nx{m n h:Addr}:(A6 m n h).lookup ("take":Str)=none:=by kernel_rfl
theorem Ny{m n h:Addr}:(A6 m n h).lookup ("drop":Str)=none:=by kernel_rfl
def Wh:Dk:=⟨[],λ_=>[],[],λ_=>[]⟩
theorem Yg:Inv Wh:=⟨abt,(λp hp=>by cases hp),(λp hp=>by cases hp),⟨λ_=>0,λp hp=>by cases hp⟩,(λi p hp=>by simp[Wh] at hp),(λx hx=>by cases hx),abt,(λs hs=>by cases hs),(λs hs=>by cases hs),(λp hp=>by cases hp),(λp hp=>by cases hp)⟩
def QM(A:Ad):Sp:=λvs H Q _=>∃(p dx:Addr),vs=[.ref p]/\H p=some (.ins A.gn dx [])/\∀(H':Hp)(W:Addr->Prop),ib A H' p Wh W->(∀b,W b->H b=none)->(∀b o,H b=some o->b≠p->H' b=some o)->Q .jc H'
theorem Dh(T:Txt mg)(O:Ok K mg A):ig P w K mg base mK 1 A.mZ A.q_ ["self"] (QM A):=by
 refine O.ue.f.rA xh λju A0 outer s H vs Q E hr h=>?_
 obtain⟨p,dx,rfl,hp,k⟩:=h
 refine⟨_,(de (lJ (pv 0) nK rfl)
   (de (lJ (pv 0) nK rfl)
   (fR (lJ (pv 0) nK rfl)))),?_⟩
 refine FO ?_;intro _ _
 intro m hm
 have G5:p≠m:=gg hp hm
 refine⟨_,rfl,p,A.gn,dx,_,rfl,(by rw[d_ G5];exact hp),O.gE,O.iX,(by show 0<1000;decide),?_⟩
 intro n hn
 have Vr:p≠n:=gg b_ hn
 have WT:m≠n:=by
  intro z;subst z;rw[d_ G5.symm,b_] at hn;cases hn
 have hH:H n=none:=by rw[d_ Vr.symm,d_ WT.symm] at hn;exact hn
 refine⟨_,rfl,p,A.gn,dx,_,rfl,(by rw[d_ Vr];exact b_),O.gE,O.i_,(by show 1<1000;decide),?_⟩
 intro h hh
 have WU:p≠h:=gg b_ hh
 have Zv:n≠h:=by
  intro z;subst z;rw[d_ Vr.symm,b_] at hh;cases hh
 have Zw:m≠h:=by
  intro z;subst z;rw[d_ G5.symm,d_ WT,d_ G5.symm,b_] at hh;cases hh
 have hhH:H h=none:=by rw[d_ WU.symm,d_ Zv.symm,d_ WU.symm,d_ Zw.symm] at hh;exact hh
 refine⟨_,rfl,p,A.gn,dx,_,rfl,(by rw[d_ WU];exact b_),O.gE,O.iw,(by show 2<1000;decide),?_⟩
 have e1:∀{o},upd (upd (upd (upd (upd (upd H m (.dK [])) p (.ins A.gn dx (jD "made" (.ref m) []))) n (.dK [])) p (.ins A.gn dx (jD "needs" (.ref n) (jD "made" (.ref m) [])))) h (.dK [])) p o m=some (.dK []):=by
  intro o;rw[d_ G5.symm,d_ Zw,d_ G5.symm,d_ WT,d_ G5.symm,b_]
 have e2:∀{o},upd (upd (upd (upd (upd (upd H m (.dK [])) p (.ins A.gn dx (jD "made" (.ref m) []))) n (.dK [])) p (.ins A.gn dx (jD "needs" (.ref n) (jD "made" (.ref m) [])))) h (.dK [])) p o n=some (.dK []):=by
  intro o;rw[d_ Vr.symm,d_ Zv,d_ Vr.symm,b_]
 have e3:∀{o},upd (upd (upd (upd (upd (upd H m (.dK [])) p (.ins A.gn dx (jD "made" (.ref m) []))) n (.dK [])) p (.ins A.gn dx (jD "needs" (.ref n) (jD "made" (.ref m) [])))) h (.dK [])) p o h=some (.dK []):=by
  intro o;rw[d_ WU.symm,b_]
 refine k _ (λb=>b=m\/b=n\/b=h) ⟨⟨dx,m,n,h,λ_=>0,[],[],[]⟩,Eq.trans b_ (abd (λl=>some (HO.ins A.gn dx l)) (QL m n h)),e1,e2,e3,WT,Zw,Zv,.inl rfl,.inr (.inl rfl),.inr (.inr rfl),rfl,(λp hp=>by cases hp),rfl,(λp hp=>by cases hp),rfl,(λp hp=>by cases hp),(λp hp=>by cases hp),λb hb=>?_⟩ (λb hb=>?_) λb o e hb=>?_
 ·rcases hb with rfl|rfl|rfl
  ·exact⟨_,e1⟩
  ·exact⟨_,e2⟩
  ·exact⟨_,e3⟩
 ·rcases hb with rfl|rfl|rfl
  ·exact hm
  ·exact hH
  ·exact hhH
 ·rw[d_ hb,d_ (gg e hhH),d_ hb,d_ (gg e hH),d_ hb,d_ (gg e hm)]
  exact e
def Nz(XB:Addr):Sp:=λvs H Q E=>∃x:Str,vs=[.str x]/\kW x/\(Good x->Q .jc H)/\(¬Good x->E (.ref XB) none H)
theorem OL:(12:Int).natAbs.log2<1920:=by decide
theorem uf(T:Txt mg)(O:Ok K mg A):ig P w K mg base (tT P w) 1 A.vI A.vJ ["name"] (Nz A.jC):=by
 refine O.uC.f.rB tW λju A0 outer s H vs Q E hr h=>?_
 obtain⟨x,rfl,⟨hf,hl⟩,q,qe⟩:=h
 refine⟨_,(de (ip (kC (Ef JL JL f_ (gz u_ (by rfl) T.jx aaL (a_ (pv 0) e_)) (Cs (v:=.int 12) (by rfl) O.sF ⟨_,rfl⟩))) (fR (ki bx O.B6 (by rfl) (lN (iq i5 (iq (Kj (Cs (v:=.int 12) (by rfl) O.sF ⟨_,rfl⟩)) (iq i5 (iq (mQ (pv 0)) nN))))))) hU)
   (fR (iD Kb rfl (Qj (pv 0)) (tL 1 tW) (fR (ip (hX Cu (pv 1) (Cs (v:=.str (Str.ofString "abcdefghijklmnopqrstuvwxyz0123456789")) (by rfl) O.C5 ⟨_,rfl⟩) rfl) (fR (ki bx O.B6 (by rfl) (lN (iq i5 (iq (mQ (pv 0)) nN))))) hU))))),?_⟩
 refine Mm ?_;intro _
 have hz:x.length<=sizeLine:=aam hl (by decide)
 have bad:¬Good x->∀H',H'=H->E (.ref A.jC) none H':=λg H' e=>by subst e;exact qe g
 refine⟨_,rfl,_,rfl,hz,_,_,rfl,rfl,_,rfl,?_⟩
 refine kZ (λh1=>?_) (λh1=>?_)
 ·refine⟨_,_,rfl,rfl,_,rfl,?_⟩
  refine kZ (λh2=>?_) (λh2=>?_)
  ·
   have h2:¬((x.length:Int)<=12):=by simpa using h2
   refine⟨_,rfl,by decide+kernel,⟨_,rfl,OL,_,rfl,by decide+kernel,⟨_,rfl,by decide+kernel,⟨_,rfl,_,rfl,hf,_,rfl,hf,λ_=>qe λg=>?_⟩⟩⟩⟩
   have:=g.2.1;omega
  ·have h1:(1:Int)<=(x.length:Int):=by simpa using h1
   have h2:(x.length:Int)<=12:=by simpa using h2
   refine⟨_,rfl,x,rfl,Ki (λi Z H2=>∃v,Z=[rs x,v]/\H2=H/\∀j<i,∀c,x.cps[j]?=some c->c∈l9.cps.toList) ⟨none,rfl,rfl,λj hj=>absurd hj (by omega)⟩ ?_ ?_⟩
   ·rintro i c Z H2 hc ⟨v,rfl,rfl,hp⟩
    refine⟨_,rfl,_,_,rfl,rfl,_,rfl,?_⟩
    rw[MZ]
    refine kZ (λh3=>?_) (λh3=>?_)
    ·have h3:c∉l9.cps.toList:=by simpa[l9] using h3
     refine⟨_,rfl,by decide+kernel,⟨_,rfl,_,rfl,hf,_,rfl,hf,λ_=>qe λg=>?_⟩⟩
     exact h3 (g.2.2 c (XY (i:=i) (by rw[abq];exact hc)))
    ·have h3:c∈l9.cps.toList:=by simpa[l9] using h3
     refine⟨_,rfl,rfl,λj hj c' Bu=>?_⟩
     by_cases e:j=i
     ·subst e;rw[hc] at Bu;cases Bu;exact h3
     ·exact hp j (by omega) c' Bu
   ·rintro Z H2 ⟨v,rfl,rfl,hp⟩
    refine q ⟨by omega,by omega,λc hc=>?_⟩
    obtain⟨j,hj,e⟩:=List.mem_iff_getElem.mp hc
    have hj':j<x.cps.size:=by simpa using hj
    exact hp j hj' c (by rw[abf hj'];simpa using e)
 ·have h1:¬((1:Int)<=(x.length:Int)):=by simpa using h1
  refine⟨_,rfl,?_⟩
  refine⟨_,rfl,by decide+kernel,⟨_,rfl,OL,_,rfl,by decide+kernel,⟨_,rfl,by decide+kernel,⟨_,rfl,_,rfl,hf,_,rfl,hf,λ_=>qe λg=>?_⟩⟩⟩⟩
  have:=g.1;omega
def NA(A:Ad):Sp:=λvs H Q E=>∃(d:Addr)(D:Dk)(W:Addr->Prop)(s:Str),vs=[.ref d,.str s]/\ib A H d D W/\kW s/\(s∈D.stores->Q .jc H)/\(s∉D.stores->E (.ref A.iP) none H)
theorem jZ(T:Txt mg)(O:Ok K mg A):ig P w K mg base (tT P w) 1 A.n6 A.n9 ["self","store"] (NA A):=by
 refine O.iQ.f.rB tN λju A0 outer s H vs Q E hr h=>?_
 obtain⟨d,D,W,st,rfl,⟨Y,x⟩,hf,q,qe⟩:=h
 refine⟨_,(fR (ip (jv (lC (by exact iT hr) (pv 1) (gA (pv 0) rfl))) (fR (ki bx O.IM (by rfl) (lN (iq i5 (iq (mQ (pv 1)) nN))))) hU)),?_⟩
 refine⟨_,rfl,_,rfl,d,A.gn,Y.dx,_,_,rfl,x.hd,O.gE,O.iw,k_ _ _ _,Y.h,_,rfl,i6.k (k:=sk st) x.hh,_,rfl,?_⟩
 rw[kx x.kh]
 by_cases hs:st∈D.stores
 ·rw[XZ hs]
  exact q hs
 ·rw[aap hs]
  exact lK ⟨_,rfl,by decide+kernel,⟨_,rfl,_,rfl,hf.1,_,rfl,hf.1,λ_=>qe hs⟩⟩
def QN(A:Ad):Sp:=λvs H Q E=>∃(d:Addr)(D:Dk)(W:Addr->Prop)(s:Str),vs=[.ref d,.str s]/\ib A H d D W/\kW s/\(s∈D.names->Q .jc H)/\(s∉D.names->E (.ref A.jY) none H)
theorem Bp(T:Txt mg)(O:Ok K mg A):ig P w K mg base (tT P w) 1 A.oP A.oQ ["self","patch"] (QN A):=by
 refine O.rm.f.rB uu λju A0 outer s H vs Q E hr h=>?_
 obtain⟨d,D,W,st,rfl,⟨Y,x⟩,hf,q,qe⟩:=h
 refine⟨_,(fR (ip (jv (lC (by exact iT hr) (pv 1) (gA (pv 0) rfl))) (fR (ki bx O.B7 (by rfl) (lN (iq i5 (iq (mQ (pv 1)) nN))))) hU)),?_⟩
 refine⟨_,rfl,_,rfl,d,A.gn,Y.dx,_,_,rfl,x.hd,O.gE,O.iX,p_ _ _ _,Y.m,_,rfl,i6.k (k:=sk st) x.hm,_,rfl,?_⟩
 rw[kx x.km]
 by_cases hs:st∈D.names
 ·rw[XZ hs]
  exact q hs
 ·rw[aap hs]
  exact lK ⟨_,rfl,by decide+kernel,⟨_,rfl,_,rfl,hf.1,_,rfl,hf.1,λ_=>qe hs⟩⟩
def QO(A:Ad):Sp:=λvs H Q E=>∃(d:Addr)(D:Dk)(W:Addr->Prop)(s x:Str),vs=[.ref d,.str s,.str x]/\ib A H d D W/\kW s/\kW x/\s∈D.stores/\(x∈D.held s->Q .jc H)/\(x∉D.held s->E (.ref A.jY) none H)
theorem pb(T:Txt mg)(O:Ok K mg A):ig P w K mg base (tT P w) 1 A.oR A.oS ["self","store","patch"] (QO A):=by
 refine O.lu.f.rB uv λju A0 outer s H vs Q E hr h=>?_
 obtain⟨d,D,W,st,y,rfl,⟨Y,x⟩,hf,G6,hs,q,qe⟩:=h
 obtain⟨v1,_,_,_,_,kv,v2,v3⟩:=x.vh st hs
 refine⟨_,(fR (ip (jv (lC (by exact iT hr) (pv 2) (zO hr (gA (pv 0) rfl) (pv 1)))) (fR (ki bx O.B7 (by rfl) (lN (iq i5 (iq (mQ (pv 1)) (iq i5 (iq (mQ (pv 2)) nN))))))) hU)),?_⟩
 refine⟨_,rfl,_,rfl,d,A.gn,Y.dx,_,_,rfl,x.hd,O.gE,O.iw,k_ _ _ _,_,rfl,Y.h,.ref (Y.ha st),rfl,?_,Y.ha st,_,rfl,i6.k (k:=sk y) v2,_,rfl,?_⟩
 ·have:=i6.k (k:=sk st) x.hh
  rw[v1] at this
  exact this
 ·rw[kx v3]
  by_cases hy:y∈D.held st
  ·rw[XZ hy]
   exact q hy
  ·rw[aap hy]
   refine lK ?_
   exact⟨_,rfl,by decide+kernel,⟨_,rfl,_,rfl,hf.1,_,rfl,hf.1,⟨_,rfl,by decide+kernel,⟨_,rfl,_,rfl,G6.1,_,rfl,G6.1,λ_=>qe hy⟩⟩⟩⟩
def sQ(H:Hp)(v:V)(l:Ln):Prop:=∃t,v=.ref t/\H t=some (.tup [.str l.nm.1,.int l.nm.2,.str l.tx])
def v_(H:Hp)(a:Addr)(row:List Ln):Prop:=∃vs,H a=some (.lst vs)/\Paired (sQ H) vs row
theorem sQ.same{H H':Hp}{v:V}{l:Ln}(x:sQ H v l)(s:gh H H'):sQ H' v l:=by obtain⟨t,e,h⟩:=x;exact⟨t,e,s _ _ h⟩
theorem v_.same{H H':Hp}{a:Addr}{row:List Ln}(x:v_ H a row)(s:gh H H'):v_ H' a row:=by
 obtain⟨vs,h,p⟩:=x
 exact⟨vs,s _ _ h,Paired.i4 p λ_ _ z=>z.same s⟩
def Ub(A:Ad):Sp:=λvs H Q E=>∃(d:Addr)(D:Dk)(W:Addr->Prop)(s:Str),vs=[.ref d,.str s]/\ib A H d D W/\kW s/\xp D.made.length/\(s∉D.stores->E (.ref A.iP) none H)/\(s∈D.stores->∀p,H p=none->Q (.ref p) (upd H p (.lst (gk (D.has s)))))
theorem GK(T:Txt mg)(O:Ok K mg A):ig P w K mg base (tT P w) 2 A.Af A.Ag ["self","store"] (Ub A):=by
 have ia:=@jZ P w K mg base A T O
 refine O.k8.f.rB xY λju A0 outer s H vs Q E hr h=>?_
 obtain⟨d,D,W,st,rfl,X,hf,jM,qe,q⟩:=h
 obtain⟨Y,x⟩:=id X
 have y0:D.made.length<=4000:=jM
 have sz:sizeLine=16777216:=aaP
 refine⟨_,(de (hV (zN bx (pv 0) O.gE O.iQ ia hr (a_ (pv 1) e_)))
   (fR (hG (Hs (zE zZ (gb qD).names [2] rfl (CJ (gA (pv 0) rfl)) rfl (by decide+kernel) (λ_ _ _ _=>(iu (i:=2) xY.nd rfl (Or.inl rfl))) (λ_ _ _ _=>⟨_,nM (jv (o3 (by exact iT hr) (pv 2) (zO hr (gA (pv 0) rfl) (pv 1)))),by(try simp only [kO]);rfl⟩) (λ_ _ _ _=>zb (pv 2))))))),?_⟩
 refine Mm ?_;intro _
 refine⟨_,rfl,d,Y.dx,_,rfl,x.hd,jz,_,rfl,d,D,W,st,rfl,X,hf,λhs=>?_,λhs=>qe hs⟩
 obtain⟨v1,_,oa,_,_,kv,v2,v3⟩:=x.vh st hs
 refine⟨_,rfl,d,A.gn,Y.dx,_,_,rfl,x.hd,O.gE,O.iX,p_ _ _ _,Y.m,Y.kM,rfl,x.hm,λo uz=>?_⟩
 have JB:=ku x.km
 have RA:D.names.length=D.made.length:=by unfold Dk.names;rw[O4]
 have SG:d≠Y.m:=iS x.hd x.hm (λz=>by cases z)
 have f:∀{b u},H b=some u->b≠Y.m->upd H Y.m (.ni o (.dK Y.kM)) b=some u:=λ{b u} e n=>by rw[d_ n];exact e
 refine Ht (by omega) (λi ys Z H3=>∃(v2:Option V)(zs:List Str),Z=[rr d,rs st,v2]/\H3=upd H Y.m (.ni o (.dK Y.kM))/\ys=gk zs/\zs=(D.names.take i).filter λx=>x∈D.held st) ⟨none,[],rfl,rfl,rfl,rfl⟩ (λi ys Z H3 ⟨_,zs,_,e,e2,e3⟩=>?_) ?_ ?_
 ·rw[e,e2,e3]
  refine⟨b_,?_⟩
  rw[O4]
  exact aam (aaX _ _) (by rw[aaO];omega)
 ·rintro i k v ys Z H3 hi ⟨v0,zs,rfl,rfl,rfl,e3⟩
  obtain⟨y,hy,rfl⟩:=xr x.km hi
  refine⟨_,rfl,_,rfl,d,A.gn,Y.dx,_,_,rfl,f x.hd SG,O.gE,O.iw,k_ _ _ _,_,rfl,Y.h,.ref (Y.ha st),rfl,?_,Y.ha st,_,rfl,i6.k (k:=sk y) (f v2 oa),_,rfl,?_⟩
  ·have:=i6.k (k:=sk st) (f x.hh x.mh.symm)
   rw[v1] at this
   exact this
  ·rw[kx v3,take_snoc hy,aaH]
   by_cases hm:y∈D.held st
   ·rw[XZ hm]
    refine lK ⟨_,rfl,_,_,rfl,rfl,iZ _ _,?_⟩
    rw[e3,YR (by simpa using hm),aa2]
   ·rw[aap hm]
    refine jg ⟨_,_,rfl,rfl,rfl,?_⟩
    rw[e3,aai (by simpa using hm),aa2,aaZ]
 ·rintro ys Z H3 ⟨v0,zs,rfl,rfl,rfl,e3⟩ p pq
  rw[JB,aaD] at e3
  have G5:p≠Y.m:=λz=>by rw[z,b_] at pq;cases pq
  have D1:H p=none:=by rw[d_ G5] at pq;exact pq
  refine⟨Y.m,o,_,by rw[d_ G5.symm];exact b_,uz,?_⟩
  rw[CI x.hm G5]
  have:=q hs p D1
  unfold Dk.has at this
  rw[<-e3] at this
  exact this
def Uc(A:Ad):Sp:=λvs H Q E=>∃(d:Addr)(D:Dk)(W:Addr->Prop)(s:Str),vs=[.ref d,.str s]/\ib A H d D W/\kW s/\xp D.made.length/\(s∉D.stores->E (.ref A.iP) none H)/\(s∈D.stores->∀p H',gh H H'->H p=none->yV A H' p (D.jQ s)->Q (.ref p) H')
theorem Bq(T:Txt mg)(O:Ok K mg A):ig P w K mg base (tT P w) 3 A.oN A.oO ["self","store"] (Uc A):=by
 have jA:=@GK P w K mg base A T O
 refine O.rl.f.rB n4 λju A0 outer s H vs Q E hr h=>?_
 obtain⟨d,D,W,st,rfl,X,hf,jM,qe,q⟩:=h
 obtain⟨Y,x⟩:=id X
 have y0:D.made.length<=4000:=jM
 have sz:sizeLine=16777216:=aaP
 have nJ:(D.jQ st).length<=D.made.length:=aaX _ _
 refine⟨_,(fR (hG (tS oK (gb ky).names [2] rfl (ie (zN bx (pv 0) O.gE O.k8 jA hr (a_ (pv 1) e_))) rfl (by decide+kernel) (λ_ _ _ _=>(iu (i:=2) n4.nd rfl (Or.inl rfl))) (λ_ _ _ _=>lM) (λ_ _ _ _=>zb (zO hr (gA (pv 0) rfl) (pv 2)))))),?_⟩
 refine⟨_,rfl,d,Y.dx,_,rfl,x.hd,qN,_,rfl,d,D,W,st,rfl,X,hf,jM,λhs=>qe hs,λhs p pq=>?_⟩
 rw[Dk.qx]
 have s1:gh H (upd H p (.lst (gk ((D.jQ st).map (·.nm))))):=(gh.refl H).new pq
 have O5:(upd H p (.lst (gk ((D.jQ st).map (·.nm))))) p=some (.lst (gk ((D.jQ st).map (·.nm)))):=b_
 generalize upd H p (.lst (gk ((D.jQ st).map (·.nm))))=H1 at s1 O5
 let Jv:=λ(i:Nat) (ys:List V) (Z:St) (H3:Hp)=>∃(v2:Option V)(as:List Addr),Z=[rr d,rs st,v2]/\H3=H1/\ys=as.map V.ref/\Paired (om A H) as ((D.jQ st).take i)
 refine⟨p,rfl,⟨_,gC.of O5⟩,jE (K:=K) (a:=p) (xs:=gk ((D.jQ st).map (·.nm))) (by rw[O4,O4];omega) Jv
  ⟨none,[],rfl,rfl,rfl,.nil⟩ (λi ys Z H3 _ ⟨_,as,_,e,e2,e3⟩=>?_) ?_ ?_⟩
 ·rw[e,e2]
  have:=aau e3
  rw[aaO] at this
  exact⟨gC.of O5,by rw[O4];omega⟩
 ·rintro i v ys Z H3 hx ⟨v2,as,rfl,rfl,rfl,e3⟩
  obtain⟨y,hy,rfl⟩:=lO hx
  rw[aan] at hy
  obtain⟨pt,Mu,rfl⟩:=Option.map_eq_some_iff.mp hy
  have qR:pt∈D.made:=(Inv.lh.mp (XY Mu)).1
  obtain⟨a,z1,z2⟩:=x.vm pt qR
  refine⟨_,rfl,d,A.gn,Y.dx,_,_,rfl,s1 _ _ x.hd,O.gE,O.iX,p_ _ _ _,_,rfl,Y.m,.ref a,rfl,?_,?_⟩
  ·have:=i6.k (k:=sk pt.nm) (s1 _ _ x.hm)
   rw[z1] at this
   exact this
  ·refine⟨_,as++[a],rfl,rfl,by rw[aaG];rfl,?_⟩
   rw[take_snoc Mu]
   exact ij e3 z2
 ·rintro ys Z H3 ⟨v2,as,rfl,rfl,rfl,e3⟩ r tJ
  have e0:(gk ((D.jQ st).map (·.nm))).length=(D.jQ st).length:=by rw[O4,O4]
  rw[e0,aaD] at e3
  have s2:=s1.new (o:=.lst (as.map V.ref)) tJ
  exact q hs r _ s2 (s1.free tJ) ⟨as,b_,Paired.i4 e3 λ_ _ z=>z.same s2⟩
def NB(A:Ad):Sp:=λvs H Q E=>∃(d:Addr)(D:Dk)(W:Addr->Prop)(s f:Str),vs=[.ref d,.str s,.str f]/\ib A H d D W/\kW s/\Small D.made/\Inv D/\(s∉D.stores->E (.ref A.iP) none H)/\(s∈D.stores->∀p H',gh H H'->H p=none->GH A H' p (gm (D.jQ s) f) (D.row s f)->Q (.ref p) H')
theorem oY(T:Txt mg)(O:Ok K mg A):ig P w K mg base (tT P w) 5 A.rf A.rg ["self","store","file"] (NB A):=by
 have xG:=@Bl P w K mg base A T O
 have wq:=@Bq P w K mg base A T O
 refine O.k9.f.rB xj λju A0 outer s H vs Q E hr h=>?_
 obtain⟨d,D,W,st,f,rfl,X,hf,sm,I,qe,q⟩:=h
 obtain⟨Y,x⟩:=id X
 refine⟨_,(fR (hG (uY O.Ng xG (hr.mono (by decide)) (by rfl) O.Nh O.sy.b .nil pE (a_ (zN bx (pv 0) O.gE O.rl wq hr (a_ (pv 1) e_)) (a_ (pv 2) e_))))),?_⟩
 refine⟨_,rfl,d,Y.dx,_,rfl,x.hd,Bo,_,rfl,d,D,W,st,rfl,X,hf,sm.many,λhs=>qe hs,λhs a H1 s1 ha0 WV=>?_⟩
 refine⟨_,rfl,?_⟩
 intro p px np Zx nxp
 have s2:gh H1 (upd (upd H1 px (.own p)) p (.ins A.h_ px [])):=λb o e=>by
  rw[d_ (gg e np),d_ (gg e Zx)]
  exact e
 refine⟨p,px,a,D.jQ st,f,rfl,b_,WV.same s2,sm.sub (Inv.ze st),I.nodup st f,I.closed hs f,I.Nc st f,λH' k sg=>⟨rfl,?_⟩⟩
 exact q hs p H' (λb o e=>k b o (s2 b o (s1 b o e)) (gg (s1 b o e) np)) (s1.free np) sg
theorem Lc{D:Dk}(I:Inv D)(s f:Str):∀l∈D.row s f,l.nm∈(gm (D.jQ s) f).map (·.nm):=λl hl=>aae ((j6 _ f).subset ((I.kF s f).subset hl))
def QP(A:Ad):Sp:=λvs H Q E=>∃(d:Addr)(D:Dk)(W:Addr->Prop)(s f:Str),vs=[.ref d,.str s,.str f]/\ib A H d D W/\kW s/\Small D.made/\Inv D/\(s∉D.stores->E (.ref A.iP) none H)/\(s∈D.stores->∀p H',gh H H'->H p=none->v_ H' p (D.row s f)->Q (.ref p) H')
theorem GL(T:Txt mg)(O:Ok K mg A):ig P w K mg base (tT P w) 6 A.Ak A.Al ["self","store","file"] (QP A):=by
 have jh:=@oY P w K mg base A T O
 refine O.vS.f.rB x5 λju A0 outer s H vs Q E hr h=>?_
 obtain⟨d,D,W,st,f,rfl,X,hf,sm,I,qe,q⟩:=h
 obtain⟨Y,x⟩:=id X
 have sz:sizeLine=16777216:=aaP
 have Dx:(D.row st f).length<=4000:=aam (I.vp st f) sm.ix
 refine⟨_,(fR (hG (tS z_ (gb qF).names [3] rfl (ie (gA (zN bx (pv 0) O.gE O.k9 jh hr (a_ (pv 1) (a_ (pv 2) e_))) rfl)) rfl (by decide+kernel) (λ_ _ _ _=>(iu (i:=3) x5.nd rfl (Or.inl rfl))) (λ_ _ _ _=>lM) (λ_ _ _ _=>zb (Cv (a_ (jq kT (gA (pv 3) rfl) f_ (λ_ _=>rfl)) (a_ (jq kT (gA (pv 3) rfl) f_ (λ_ _=>rfl)) (a_ (gA (pv 3) rfl) e_)))))))),?_⟩
 refine⟨_,rfl,d,Y.dx,_,rfl,x.hd,oX,_,rfl,_,rfl,d,D,W,st,f,rfl,X,hf,sm,I,λhs=>qe hs,λhs p H1 s1 pq ⟨px,ah,l,g1,g2,⟨as,g3,g4⟩⟩=>?_⟩
 have hlen:=aau g4
 let Jv:=λ(i:Nat) (ys:List V) (Z:St) (H4:Hp)=>∃(v3:Option V),Z=[rr d,rs st,rs f,v3]/\gh H1 H4/\Paired (sQ H4) ys ((D.row st f).take i)
 refine⟨p,A.h_,px,_,_,rfl,g1,O.j9,O.il,lG ah l,l,rfl,⟨_,gC.of g3⟩,jE (K:=K) (a:=l) (xs:=as.map V.ref) (by rw[O4];omega) Jv
  ⟨none,rfl,gh.refl _,.nil⟩ (by rintro _ _ _ _ _ ⟨_,_,e,e2⟩;exact⟨gC.of (e _ _ g3),by rw[aau e2,aaO];omega⟩) ?_ ?_⟩
 ·rintro i v ys Z H4 hx ⟨v3,rfl,s4,e2⟩
  obtain⟨b,hb,rfl⟩:=j_ hx
  obtain⟨ln,tP,SD,vn,vu,vl,k1,⟨nt,rfl,k2⟩,k3,k4⟩:=ic g4 hb
  refine⟨_,rfl,b,A.gH,SD,_,_,rfl,s4 _ _ k1,O.iL,O.gF,iY,nt,_,_,_,rfl,rfl,ox.of (s4 _ _ k2),gs (j:=0) rfl rfl,?_⟩
  refine⟨_,rfl,b,A.gH,SD,_,_,rfl,s4 _ _ k1,O.iL,O.gF,iY,nt,_,_,_,rfl,rfl,ox.of (s4 _ _ k2),gs (j:=1) rfl rfl,?_⟩
  refine⟨_,rfl,b,A.gH,SD,_,_,rfl,s4 _ _ k1,O.iL,O.jK,Aq,L2.jM,λt ht=>?_⟩
  have s5:=(gh.refl H4).new (o:=.tup [.str ln.nm.1,.int ln.nm.2,.str ln.tx]) ht
  refine⟨_,rfl,s4.trans s5,?_⟩
  rw[take_snoc tP]
  exact ij (Paired.i4 e2 λ_ _ z=>z.same s5) ⟨t,rfl,b_⟩
 ·rintro ys Z H4 ⟨v3,rfl,s4,e2⟩ r tJ
  rw[O4,hlen,aaD] at e2
  have s5:=(s1.trans s4).new (o:=.lst ys) tJ
  exact q hs r _ s5 ((s1.trans s4).free tJ) ⟨ys,b_,Paired.i4 e2 λ_ _ z=>z.same ((gh.refl H4).new tJ)⟩
def Ud(A:Ad):Sp:=λvs H Q E=>∃(d:Addr)(D:Dk)(W:Addr->Prop)(s f:Str),vs=[.ref d,.str s,.str f]/\ib A H d D W/\kW s/\Small D.made/\Inv D/\(s∉D.stores->E (.ref A.iP) none H)/\(s∈D.stores->∀p H' vs,gh H H'->H p=none->H' p=some (.lst vs)->iC H' (D.jR s f) vs->Q (.ref p) H')
theorem sR(T:Txt mg)(O:Ok K mg A):ig P w K mg base (tT P w) 6 A.ra A.rb ["self","store","file"] (Ud A):=by
 have jh:=@oY P w K mg base A T O
 have kY:=@sN P w K mg base A T O
 refine O.mz.f.rB xi λju A0 outer s H vs Q E hr h=>?_
 obtain⟨d,D,W,st,f,rfl,X,hf,sm,I,qe,q⟩:=h
 obtain⟨Y,x⟩:=id X
 have Dx:(D.row st f).length<=4000:=aam (I.vp st f) sm.ix
 refine⟨_,(fR (hG (Eg (zN bx (pv 0) O.gE O.k9 jh hr (a_ (pv 1) (a_ (pv 2) e_))) O.j9 O.jJ.t kY (hr.mono (by decide)) O.jJ.b .nil pE))),?_⟩
 refine⟨_,rfl,d,Y.dx,_,rfl,x.hd,oX,_,rfl,_,rfl,d,D,W,st,f,rfl,X,hf,sm,I,λhs=>qe hs,λhs p H1 s1 pq sg=>?_⟩
 obtain⟨px,ah,l,g1,g2,g3⟩:=id sg
 refine⟨p,px,_,rfl,g1,K7 ah l,p,_,_,rfl,sg,Lc I st f,Dx,λr H2 vs s2 tJ xF zo=>?_⟩
 exact q hs r H2 vs (s1.trans s2) (s1.free tJ) xF zo
end
theorem sS{xs ys:List Str}(nd:xs.Nodup)(h:∀x∈xs,x∈ys):xs.length<=ys.length:=by
 have:=len_sub (xs:=xs.map λk=>((k,0):Nm)) (ys:=ys.map λk=>(k,0)) (ab3.mpr (nd.imp λh z=>h (abd Prod.fst z))) λx hx=>by
  obtain⟨k,hk,rfl⟩:=List.mem_map.mp hx
  exact aae (h k hk)
 rwa [O4,O4] at this
section
variable{A:Ad}{H:Hp}{x:Addr}{o:HO}{kv:List (Key×V)}
theorem mH.dk{a:Addr}{l:Ln}(h:mH A H a l)(hx:H x=some (.dK kv)):mH A (L2.upd H x o) a l:=mH.upd h hx (λ_ z=>by cases z) (λ_ _ _ z=>by cases z)
theorem oj.dk{a:Addr}{ls:List Ln}(h:oj A H a ls)(hx:H x=some (.dK kv)):oj A (L2.upd H x o) a ls:=by
 obtain⟨as,h1,h2⟩:=h
 exact⟨as,by rw[d_ (iS h1 hx (λz=>by cases z))];exact h1,Paired.i4 h2 λ_ _ z=>z.dk hx⟩
theorem vT.dk{a:Addr}{ns:List Nm}(h:vT H a ns)(hx:H x=some (.dK kv)):vT (L2.upd H x o) a ns:=by
 obtain⟨vs,h1,h2⟩:=h
 exact⟨vs,by rw[d_ (iS h1 hx (λz=>by cases z))];exact h1,Paired.i4 h2 λ_ _ z=>z.upd hx (λ_ z=>by cases z)⟩
theorem om.dk{a:Addr}{p:Pt}(h:om A H a p)(hx:H x=some (.dK kv)):om A (L2.upd H x o) a p:=by
 obtain⟨dx,vf,pu,cu,vo,h0,h1,h2,h3,h4⟩:=h
 exact⟨dx,vf,pu,cu,vo,by rw[d_ (iS h0 hx (λz=>by cases z))];exact h0,h1,h2.dk hx,h3.dk hx,h4⟩
end
noncomputable def Fg(l:List Str)(m:Str):List Str:=if m∈l then l else l++[m]
theorem Fh{l:List Str}{m x:Str}:x∈Fg l m↔x∈l\/x=m:=by
 unfold Fg
 split
 ·rename_i h
  exact⟨.inl,λz=>z.elim id λz=>z▸h⟩
 ·simp
theorem HC{l:List Str}{m:Str}(h:l.Nodup):(Fg l m).Nodup:=by
 unfold Fg
 split
 ·exact h
 ·rename_i hm
  rw[abh]
  exact⟨h,by simp,λa ha b hb z=>hm (by rw[XS.mp hb] at z;exact z▸ha)⟩
theorem Cb{dk:List (Key×V)}{l:List Str}(h:dk.map (·.1)=l.map sk)(m:Str)(v:V):(putK dk (sk m) v).map (·.1)=(Fg l m).map sk:=by
 rw[p7,h]
 unfold Fg
 by_cases e:m∈l
 ·rw[aax (Ax.mpr e),aax e]
 ·rw[aav (λz=>e (Ax.mp z)),aav e,aaG];rfl
theorem Cc:∀(more:List (Key×V))(dk:List (Key×V))(l r:List Str),dk.map (·.1)=l.map sk->more.map (·.1)=r.map sk->l.Nodup->∃l':List Str,(putAll dk more).map (·.1)=l'.map sk/\l'.Nodup/\∀m,m∈l'↔m∈l\/m∈r
 | [],dk,l,r,h1,h2,nd=>by
  have:r=[]:=by cases r with|nil=>rfl|cons _ _=>cases h2
  subst this
  exact⟨l,h1,nd,λm=>by simp⟩
 | p::t,dk,l,r,h1,h2,nd=>by
  cases r with
  | nil=>cases h2
  | cons x r=>
   rw[aaK,aaK] at h2
   injection h2 with e1 e2
   rw[rK,e1]
   obtain⟨l',z1,z2,z3⟩:=Cc t (putK dk (sk x) p.2) (Fg l x) r (Cb h1 x _) e2 (HC nd)
   refine⟨l',z1,z2,λm=>?_⟩
   rw[z3 m,Fh,aag,or_assoc]
theorem GN{kvs:List (Key×V)}{l:List Str}{x:Str}(h:kvs.map (·.1)=l.map sk):(jV kvs (sk x)).map (·.1)=(l.filter λy=>y≠x).map sk:=by
 induction kvs generalizing l with
 | nil=>
  cases l with
  | nil=>rfl
  | cons _ _=>cases h
 | cons p r ih=>
  cases l with
  | nil=>cases h
  | cons y t=>
   rw[aaK,aaK] at h
   injection h with e1 e2
   by_cases e:y=x
   ·rw[wH (by rw[e1,e]),ih e2,aai (by simpa using e)]
   ·rw[wI (by rw[e1];exact λz=>e (acF z)),YR (by simpa using e),aaK,aaK,ih e2,e1]
noncomputable def xt(D:Dk)(s:Str)(l:List Str):Dk:=⟨D.made,D.iE,D.stores,λt=>if t=s then l else D.held t⟩
theorem OK.xt{A:Ad}{H:Hp}{d:Addr}{D:Dk}{W:Addr->Prop}{Y:Dp}{s:Str}{l:List Str}{kv:List (Key×V)}(x:OK A H d D W Y)(hs:s∈D.stores)(hk:kv.map (·.1)=l.map sk):OK A (upd H (Y.ha s) (.dK kv)) d (PK.xt D s l) W Y:=by
 obtain⟨v1,v2,v3,v4,v5,Zy,v6,v7⟩:=x.vh s hs
 exact{
  hd:=by rw[d_ (iS x.hd v6 (λz=>by cases z))];exact x.hd
  hm:=by rw[d_ v3.symm];exact x.hm
  hn:=by rw[d_ v4.symm];exact x.hn
  hh:=by rw[d_ v5.symm];exact x.hh
  mn:=x.mn
  mh:=x.mh
  nh:=x.nh
  wm:=x.wm
  wn:=x.wn
  wh:=x.wh
  km:=x.km
  vm:=λp hp=>by obtain⟨a,h1,h2⟩:=x.vm p hp;exact⟨a,h1,h2.dk v6⟩
  kn:=x.kn
  vn:=λy hy=>by
   obtain⟨a,kv,l,h1,h2,h3,h4⟩:=x.vn y hy
   exact⟨a,kv,l,h1,h2,by rw[d_ (λ(z:a=Y.ha s)=>h2 (by rw[z];exact v2))];exact h3,h4⟩
  kh:=x.kh
  vh:=λt ht=>by
   obtain⟨h1,h2,h3,h4,h5,kv,h6,h7⟩:=x.vh t ht
   refine⟨h1,h2,h3,h4,h5,?_⟩
   show ∃kv:List (Key×V),_/\kv.map (·.1)=(if t=s then l else D.held t).map sk
   by_cases e:t=s
   ·subst e
    rw[aax rfl]
    exact⟨_,b_,hk⟩
   ·rw[aav e]
    exact⟨kv,by rw[d_ (λz=>e (x.inj t ht s hs z))];exact h6,h7⟩
  inj:=x.inj
  dk:=λb hb=>by
   by_cases e:b=Y.ha s
   ·rw[e];exact⟨_,b_⟩
   ·obtain⟨kv,h⟩:=x.dk b hb;exact⟨kv,by rw[d_ e];exact h⟩}
section
variable{P:Program}{w:World}{K:Qqy}{mg:Qqx}{base:Heap}{A:Ad}
def NC(A:Ad):Sp:=λvs H Q E=>∃(d:Addr)(D:Dk)(W:Addr->Prop)(s:Str),vs=[.ref d,.str s]/\ib A H d D W/\kW s/\D.stores.length<1000/\(¬Good s->E (.ref A.jC) none H)/\(Good s->s∈D.stores->E (.ref A.js) none H)/\
 (Good s->s∉D.stores->∀H' W',ib A H' d (D.begin s) W'->oW W H H'->(∀b,W' b->W b\/H b=none)->Q .jc H')
theorem Ld(T:Txt mg)(O:Ok K mg A):ig P w K mg base (tT P w) 2 A.vK A.vL ["self","store"] (NC A):=by
 have qS:=@uf P w K mg base A T O
 refine O.An.f.rB Ba λju A0 outer s H vs Q E hr h=>?_
 obtain⟨d,D,W,st,rfl,X,hf,hlen,q1,q2,q3⟩:=h
 obtain⟨Y,x⟩:=id X
 have sz:sizeLine=16777216:=aaP
 refine⟨_,(de (hV (XX bx O.uC qS hr (a_ (pv 1) e_)))
   (de (ip (jv (o3 (by exact iT hr) (pv 1) (gA (pv 0) rfl))) (fR (ki bx O.yE (by rfl) (lN (iq i5 (iq (mQ (pv 1)) (iq i5 nN)))))) hU)
   (fR (jB (by exact iT hr) (gA (pv 0) rfl) (pv 1) nK rfl)))),?_⟩
 refine FO ?_;intro _ _
 refine⟨_,rfl,st,rfl,hf,λg=>?_,λng=>q1 ng⟩
 refine⟨_,rfl,_,rfl,d,A.gn,Y.dx,_,_,rfl,x.hd,O.gE,O.iw,k_ _ _ _,Y.h,_,rfl,i6.k (k:=sk st) x.hh,_,rfl,?_⟩
 rw[kx x.kh]
 by_cases hs:st∈D.stores
 ·rw[XZ hs]
  refine lK ⟨_,rfl,by decide+kernel,⟨_,rfl,_,rfl,hf.1,_,rfl,hf.1,⟨_,rfl,by decide+kernel,λ_=>q2 g hs⟩⟩⟩
 ·rw[aap hs]
  refine jg ?_
  intro p pq
  have fr:∀{b o},H b=some o->b≠p:=λe=>gg e pq
  have O_:(upd H p (.dK [])) Y.h=some (.dK Y.kH):=by rw[d_ (fr x.hh)];exact x.hh
  have JB:=ku x.kh
  refine⟨_,rfl,d,A.gn,Y.dx,_,_,rfl,by rw[d_ (fr x.hd)];exact x.hd,O.gE,O.iw,k_ _ _ _,_,rfl,Y.h,_,rfl,nE.k (k:=sk st) O_ (by omega),?_⟩
  have s1:gh H (upd H p (.dK [])):=(gh.refl H).new pq
  have up:∀{b o},H b=some o->b≠Y.h->upd (upd H p (.dK [])) Y.h (.dK (putK Y.kH (sk st) (.ref p))) b=some o:=λ{b o} e n=>by rw[d_ n];exact s1 _ _ e
  have Zz:p≠Y.h:=(fr x.hh).symm
  refine q3 g hs _ (λb=>W b\/b=p) ⟨⟨Y.dx,Y.m,Y.n,Y.h,λt=>if t=st then p else Y.ha t,Y.kM,Y.kN,putK Y.kH (sk st) (.ref p)⟩,?_⟩ (λb o e nw=>?_) (λb hb=>?_)
  ·exact{
    hd:=up x.hd (iS x.hd x.hh (λz=>by cases z))
    hm:=up x.hm x.mh
    hn:=up x.hn x.nh
    hh:=b_
    mn:=x.mn
    mh:=x.mh
    nh:=x.nh
    wm:=.inl x.wm
    wn:=.inl x.wn
    wh:=.inl x.wh
    km:=x.km
    vm:=λq hq=>by obtain⟨a,h1,h2⟩:=x.vm q hq;exact⟨a,h1,(h2.same s1).dk O_⟩
    kn:=x.kn
    vn:=λy hy=>by
     obtain⟨a,kv,l,h1,h2,h3,h4⟩:=x.vn y hy
     exact⟨a,kv,l,h1,λz=>z.elim h2 (fr h3),up h3 (λ(z:a=Y.h)=>h2 (by rw[z];exact x.wh)),h4⟩
    kh:=p8 x.kh hs _
    vh:=λt ht=>by
     show iN (putK Y.kH (sk st) (.ref p)) (sk t)=some (.ref (if t=st then p else Y.ha t))/\(W (if t=st then p else Y.ha t)\/(if t=st then p else Y.ha t)=p)/\(if t=st then p else Y.ha t)≠Y.m/\(if t=st then p else Y.ha t)≠Y.n/\(if t=st then p else Y.ha t)≠Y.h/\∃kv:List (Key×V),(upd (upd H p (.dK [])) Y.h (.dK (putK Y.kH (sk st) (.ref p)))) (if t=st then p else Y.ha t)=some (.dK kv)/\kv.map (·.1)=(if t=st then[] else D.held t).map sk
     rw[ke]
     by_cases e:t=st
     ·subst e
      rw[aax rfl,aax rfl,aax rfl]
      exact⟨rfl,.inr rfl,(fr x.hm).symm,(fr x.hn).symm,Zz,[],by rw[d_ Zz];exact b_,rfl⟩
     ·have SH:t∈D.stores:=(aak.mp ht).elim id λz=>absurd (XS.mp z) e
      rw[aav (λz=>e (acF z)),aav e,aav e]
      obtain⟨h1,h2,h3,h4,h5,kv,h6,h7⟩:=x.vh t SH
      exact⟨h1,.inl h2,h3,h4,h5,kv,up h6 h5,h7⟩
    inj:=λt ht u hu e=>by
     have e:(if t=st then p else Y.ha t)=(if u=st then p else Y.ha u):=e
     by_cases e1:t=st
     ·by_cases e2:u=st
      ·rw[e1,e2]
      ·have SI:u∈D.stores:=(aak.mp hu).elim id λz=>absurd (XS.mp z) e2
       rw[aax e1,aav e2] at e
       obtain⟨_,_,_,_,_,kv,h6,_⟩:=x.vh u SI
       exact absurd e.symm (fr h6)
     ·have SH:t∈D.stores:=(aak.mp ht).elim id λz=>absurd (XS.mp z) e1
      by_cases e2:u=st
      ·rw[aav e1,aax e2] at e
       obtain⟨_,_,_,_,_,kv,h6,_⟩:=x.vh t SH
       exact absurd e (fr h6)
      ·have SI:u∈D.stores:=(aak.mp hu).elim id λz=>absurd (XS.mp z) e2
       rw[aav e1,aav e2] at e
       exact x.inj t SH u SI e
    dk:=λb hb=>by
     by_cases e:b=Y.h
     ·rw[e];exact⟨_,b_⟩
     ·rcases hb with hb|hb
      ·obtain⟨kv,h⟩:=x.dk b hb;exact⟨kv,up h e⟩
      ·rw[hb];exact⟨[],by rw[d_ Zz];exact b_⟩}
  ·exact up e (λ(z:b=Y.h)=>nw (by rw[z];exact x.wh))
  ·rcases hb with hb|hb
   ·exact .inl hb
   ·rw[hb];exact .inr pq
def Ue(A:Ad):Sp:=λvs H Q E=>∃(d l:Addr)(D:Dk)(W:Addr->Prop)(x:Str)(fs:List Str),vs=[.ref d,.str x,.ref l]/\ib A H d D W/\H l=some (.lst (gk fs))/\fs.length<=1000/\(∀y∈x::fs,kW y)/\
 ((¬∀y∈x::fs,Good y)->∀H',gh H H'->E (.ref A.jC) none H')/\((∀y∈x::fs,Good y)->x∈D.names->∀H',gh H H'->E (.ref A.js) none H')/\((∀y∈x::fs,Good y)->x∉D.names->∀H',gh H H'->Q .jc H')
theorem qO(T:Txt mg)(O:Ok K mg A):ig P w K mg base (tT P w) 2 A.pY A.pZ ["self","patch","files"] (Ue A):=by
 have qS:=@uf P w K mg base A T O
 refine O.lZ.f.rB oM λju A0 outer s H vs Q E hr h=>?_
 obtain⟨d,l,D,W,y,fs,rfl,X,hl,Jw,Pe,q1,q2,q3⟩:=h
 obtain⟨Y,x⟩:=id X
 have sz:sizeLine=16777216:=aaP
 refine⟨_,(de (iD Kb rfl (ie (gp mO (iB (a_ (pv 1) e_)) (pv 2))) (tL 3 oM) (fR (hV (XX bx O.uC qS hr (a_ (pv 3) e_)))))
   (fR (ip (jv (o3 (by exact iT hr) (pv 1) (gA (pv 0) rfl))) (fR (ki bx O.yE (by rfl) (lN (iq i5 (iq (mQ (pv 1)) (iq i5 nN)))))) hU))),?_⟩
 refine Mm ?_;intro _
 refine⟨_,rfl,L2.jM,λa ha=>?_⟩
 have s1:gh H (upd H a (.lst [V.str y])):=(gh.refl H).new ha
 refine⟨_,rfl,a,l,_,_,rfl,rfl,b_,s1 _ _ hl,by rw[O4];show 1+_<=_;omega,λb hb=>?_⟩
 have s2:=s1.new (o:=.lst ([V.str y]++gk fs)) hb
 have JD:(upd (upd H a (.lst [V.str y])) b (.lst ([V.str y]++gk fs))) b=some (.lst (gk (y::fs))):=b_
 generalize upd (upd H a (.lst [V.str y])) b (.lst ([V.str y]++gk fs))=H2 at s2 JD
 let Jv:=λ(i:Nat) (Z:St) (H3:Hp)=>∃v,Z=[rr d,rs y,rr l,v]/\H3=H2/\∀z∈(y::fs).take i,Good z
 refine⟨b,rfl,⟨_,gC.of JD⟩,iV (K:=K) (a:=b) (xs:=gk (y::fs)) Jv ⟨none,rfl,rfl,λz hz=>by rw[abU] at hz;cases hz⟩ (by rintro _ _ _ _ ⟨_,_,e,_⟩;rw[e];exact gC.of JD) ?_ ?_⟩
 ·rintro i v Z H3 hx ⟨v0,rfl,rfl,hg⟩
  obtain⟨z,hz,rfl⟩:=lO hx
  refine⟨_,rfl,z,rfl,Pe z (XY hz),λg=>?_,λng=>q1 (λh=>ng (h z (XY hz))) _ s2⟩
  refine⟨_,rfl,rfl,λt ht=>?_⟩
  rw[take_snoc hz] at ht
  rcases aak.mp ht with ht|ht
  ·exact hg t ht
  ·rw[XS.mp ht];exact g
 ·rintro Z H3 ⟨v0,rfl,rfl,hg⟩
  rw[O4,aaD] at hg
  refine⟨_,rfl,_,rfl,d,A.gn,Y.dx,_,_,rfl,s2 _ _ x.hd,O.gE,O.iX,p_ _ _ _,Y.m,_,rfl,i6.k (k:=sk y) (s2 _ _ x.hm),_,rfl,?_⟩
  rw[kx x.km]
  have hf:=Pe y aaC
  by_cases hm:y∈D.names
  ·rw[XZ hm]
   exact lK ⟨_,rfl,by decide+kernel,⟨_,rfl,_,rfl,hf.1,_,rfl,hf.1,⟨_,rfl,by decide+kernel,λ_=>q2 hg hm _ s2⟩⟩⟩
  ·rw[aap hm]
   exact q3 hg hm _ s2
def ND(A:Ad):Sp:=λvs H Q E=>∃(d:Addr)(D:Dk)(W:Addr->Prop)(s:Str),vs=[.ref d,.str s]/\ib A H d D W/\kW s/\xp D.made.length/\(s∉D.names->E (.ref A.jY) none H)/\(s∈D.names->∀p,H p=none->Q (.ref p) (upd H p (.lst (gk (D.nR s)))))
theorem Le(T:Txt mg)(O:Ok K mg A):ig P w K mg base (tT P w) 2 A.vM A.vN ["self","patch"] (ND A):=by
 have wu:=@Bp P w K mg base A T O
 refine O.Ap.f.rB tY λju A0 outer s H vs Q E hr h=>?_
 obtain⟨d,D,W,st,rfl,X,hf,jM,qe,q⟩:=h
 obtain⟨Y,x⟩:=id X
 have y0:D.made.length<=4000:=jM
 have sz:sizeLine=16777216:=aaP
 refine⟨_,(de (hV (zN bx (pv 0) O.gE O.rm wu hr (a_ (pv 1) e_)))
   (fR (hG (Hs (zE vB (gb nF).names [2] rfl (CJ (gA (pv 0) rfl)) rfl (by decide+kernel) (λ_ _ _ _=>(iu (i:=2) tY.nd rfl (Or.inl rfl))) (λ_ _ _ _=>⟨_,nM (jv (o3 (by exact iT hr) (pv 2) (zO hr (gA (pv 0) rfl) (pv 1)))),by(try simp only [kO]);rfl⟩) (λ_ _ _ _=>zb (pv 2))))))),?_⟩
 refine Mm ?_;intro _
 refine⟨_,rfl,d,Y.dx,_,rfl,x.hd,Bn,_,rfl,d,D,W,st,rfl,X,hf,λhs=>?_,λhs=>qe hs⟩
 obtain⟨a,kv,l,v1,Vs,v2,v3,_,v4⟩:=x.vn st hs
 have oa:a≠Y.m:=λz=>Vs (by rw[z];exact x.wm)
 refine⟨_,rfl,d,A.gn,Y.dx,_,_,rfl,x.hd,O.gE,O.iX,p_ _ _ _,Y.m,Y.kM,rfl,x.hm,λo uz=>?_⟩
 have JB:=ku x.km
 have RA:D.names.length=D.made.length:=by unfold Dk.names;rw[O4]
 have SG:d≠Y.m:=iS x.hd x.hm (λz=>by cases z)
 have f:∀{b u},H b=some u->b≠Y.m->upd H Y.m (.ni o (.dK Y.kM)) b=some u:=λ{b u} e n=>by rw[d_ n];exact e
 refine Ht (by omega) (λi ys Z H3=>∃(v2:Option V)(zs:List Str),Z=[rr d,rs st,v2]/\H3=upd H Y.m (.ni o (.dK Y.kM))/\ys=gk zs/\zs=(D.names.take i).filter λx=>x∈D.iE st) ⟨none,[],rfl,rfl,rfl,rfl⟩ (λi ys Z H3 ⟨_,zs,_,e,e2,e3⟩=>?_) ?_ ?_
 ·rw[e,e2,e3]
  refine⟨b_,?_⟩
  rw[O4]
  exact aam (aaX _ _) (by rw[aaO];omega)
 ·rintro i k v ys Z H3 hi ⟨v0,zs,rfl,rfl,rfl,e3⟩
  obtain⟨y,hy,rfl⟩:=xr x.km hi
  refine⟨_,rfl,_,rfl,d,A.gn,Y.dx,_,_,rfl,f x.hd SG,O.gE,O.i_,tH _ _ _,_,rfl,Y.n,.ref a,rfl,?_,a,_,rfl,i6.k (k:=sk y) (f v2 oa),_,rfl,?_⟩
  ·have:=i6.k (k:=sk st) (f x.hn x.mn.symm)
   rw[v1] at this
   exact this
  ·rw[kx v3,take_snoc hy,aaH]
   by_cases hm:y∈D.iE st
   ·rw[XZ ((v4 y).mpr hm)]
    refine lK ⟨_,rfl,_,_,rfl,rfl,iZ _ _,?_⟩
    rw[e3,YR (by simpa using hm),aa2]
   ·rw[aap (λz=>hm ((v4 y).mp z))]
    refine jg ⟨_,_,rfl,rfl,rfl,?_⟩
    rw[e3,aai (by simpa using hm),aa2,aaZ]
 ·rintro ys Z H3 ⟨v0,zs,rfl,rfl,rfl,e3⟩ p pq
  rw[JB,aaD] at e3
  have G5:p≠Y.m:=λz=>by rw[z,b_] at pq;cases pq
  have D1:H p=none:=by rw[d_ G5] at pq;exact pq
  refine⟨Y.m,o,_,by rw[d_ G5.symm];exact b_,uz,?_⟩
  rw[CI x.hm G5]
  have:=q hs p D1
  unfold Dk.nR at this
  rw[<-e3] at this
  exact this
def QQ(A:Ad):Sp:=λvs H Q _=>∃(d a:Addr)(D:Dk)(W:Addr->Prop)(s:Str)(p:Pt),vs=[.ref d,.str s,.ref a]/\ib A H d D W/\Inv D/\xp D.made.length/\s∈D.stores/\om A H a p/\p.nm∉D.names/\xp p.ix.length/\xp p.jt.length/\(∀y∈ik p,y∈D.names)/\
 ∀H',ib A H' d (D.keep s p) W->oW W H H'->Q .jc H'
theorem Di(p:Pt):(ik p).length<=p.jt.length+2*p.ix.length+1:=by
 unfold ik
 rw[YN,O4]
 have h1:=aaX (λn:Nm=>decide (n.1≠p.nm)) (named p)
 have h2:=B_ p
 have h3:p.other.toList.length<=1:=by cases p.other<;>simp
 omega
theorem Dj(T:Txt mg)(O:Ok K mg A):ig P w K mg base mK 3 A.ym A.yn ["self","store","patch"] (QQ A):=by
 have tQ:=@sO P w K mg base A T O
 refine O.tw.f.rA qI λju A0 outer s H vs Q E hr h=>?_
 obtain⟨d,a,D,W,st,p,rfl,X,I,jM,hs,Mu,fresh,G4,Fy,uG,q⟩:=h
 obtain⟨Y,x⟩:=id X
 have y0:D.made.length<=4000:=jM
 have Pc:p.ix.length<=4000:=G4
 have L1:p.jt.length<=4000:=Fy
 have sz:sizeLine=16777216:=aaP
 have RA:D.names.length=D.made.length:=by unfold Dk.names;rw[O4]
 have Ws:=Di p
 refine⟨_,(de (k7 3 qI nK)
   (de (iD aaM rfl (ie (og O.oV tQ hr (a_ (pv 2) e_))) (tL 4 qI) (de (jB (by exact iT hr) (pv 3) (pv 4) kc rfl)
   (fR (hV (Kw (pv 3) (zO hr (gA (pv 0) rfl) (pv 4)) ⟨rfl,rfl,rfl,rfl⟩)))))
   (de (jB (by exact iT hr) (gA (pv 0) rfl) (gA (pv 2) rfl) (pv 3) rfl)
   (de (jB (by exact iT hr) (gA (pv 0) rfl) (gA (pv 2) rfl) (pv 2) rfl)
   (fR (jB (by exact iT hr) (zO hr (gA (pv 0) rfl) (pv 1)) (gA (pv 2) rfl) kc rfl)))))),?_⟩
 refine R6 ?_;intro _ _ _ _
 intro nd Rq
 have s1:gh H (upd H nd (.dK [])):=(gh.refl H).new Rq
 have RG:(upd H nd (.dK [])) nd=some (.dK []):=b_
 generalize upd H nd (.dK [])=H1 at s1 RG
 refine⟨_,rfl,a,p,rfl,Mu.same s1,G4,Fy,λr H2 s2 tJ xF=>?_⟩
 have D3:=s1.trans s2
 have hrn:r≠nd:=λz=>by rw[z,RG] at tJ;cases tJ
 have WW:¬W nd:=X.jc Rq
 let Jv:=λ(i:Nat) (Z:St) (H3:Hp)=>∃(v:Option V)(kv:List (Key×V))(l:List Str),Z=[rr d,rs st,rr a,rr nd,v]/\(∀b o,H2 b=some o->b≠nd->H3 b=some o)/\H3 nd=some (.dK kv)/\kv.map (·.1)=l.map sk/\l.Nodup/\∀y,y∈l↔∃z∈(ik p).take i,y=z\/y∈D.iE z
 refine⟨r,rfl,⟨_,gC.of xF⟩,iV (K:=K) (a:=r) (xs:=gk (ik p)) Jv
  ⟨none,[],[],rfl,λb o e _=>e,s2 _ _ RG,rfl,abt,λy=>by simp⟩ (by rintro _ _ _ _ ⟨_,_,_,_,e,_⟩;exact gC.of (e _ _ xF hrn)) ?_ ?_⟩
 ·rintro i v Z H3 hx ⟨v0,kv,l,rfl,e1,e2,e3,e4,e5⟩
  obtain⟨z,hz,rfl⟩:=lO hx
  have hzm:z∈ik p:=XY hz
  have Oc:z∈D.names:=uG z hzm
  obtain⟨az,kz,lz,z1,z2,z3,z4,z5,z6⟩:=x.vn z Oc
  have Bz:∀y∈l,y∈D.names:=λy hy=>by
   obtain⟨t,ht,h⟩:=(e5 y).mp hy
   have htn:=uG t (List.mem_of_mem_take ht)
   rcases h with h|h
   ·rw[h];exact htn
   ·exact I.zf htn h
  have Y7:=sS e4 Bz
  have hlz:=sS z5 λy hy=>I.zf Oc ((z6 y).mp hy)
  have JB:=ku e3
  have hkz:=ku z4
  have hlk:=jr kv (sk z) (V.bl true)
  have ZA:az≠nd:=λe=>by rw[e,Rq] at z3;cases z3
  refine⟨_,rfl,_,rfl,nd,_,rfl,nE.k (k:=sk z) e2 (by omega),?_⟩
  have up:∀{b o},H b=some o->upd H3 nd (.dK (putK kv (sk z) (V.bl true))) b=some o:=λ{b o} e=>by
   have n:b≠nd:=λz=>by rw[z,Rq] at e;cases e
   rw[d_ n];exact e1 _ _ (D3 _ _ e) n
  refine⟨_,rfl,nd,rfl,.inl ⟨_,.inl b_⟩,_,rfl,d,A.gn,Y.dx,_,_,rfl,up x.hd,O.gE,O.i_,tH _ _ _,_,rfl,Y.n,.ref az,rfl,?_,az,_,kz,rfl,b_,.inl (up z3),ZA.symm,by omega,?_⟩
  ·have:=i6.k (k:=sk z) (up x.hn)
   rw[z1] at this
   exact this
  ·obtain⟨l',w1,w2,w3⟩:=Cc kz _ (Fg l z) lz (Cb e3 z (V.bl true)) z4 (HC e4)
   refine⟨_,_,l',rfl,λb o e n=>by rw[d_ n,d_ n];exact e1 b o e n,b_,w1,w2,λy=>?_⟩
   rw[w3 y,Fh,e5 y,z6 y,take_snoc hz]
   constructor
   ·rintro((⟨t,ht,h⟩|h)|h)
    ·exact⟨t,aaI _ ht,h⟩
    ·exact⟨z,by simp,.inl h⟩
    ·exact⟨z,by simp,.inr h⟩
   ·rintro⟨t,ht,h⟩
    rcases aak.mp ht with ht|ht
    ·exact .inl (.inl ⟨t,ht,h⟩)
    ·rw[XS.mp ht] at h
     exact h.elim (λh=>.inl (.inr h)) .inr
 ·rintro Z H3 ⟨v0,kv,l,rfl,e1,e2,e3,e4,e5⟩
  rw[O4,aaD] at e5
  have s3:gh H H3:=λb o e=>e1 b o (D3 _ _ e) (λz=>by rw[z,Rq] at e;cases e)
  obtain⟨dx,vf,pu,cu,vo,g1,g2⟩:=Mu.same s3
  have y:=x.same s3
  have hnM:=ku x.km
  have hnN:=ku x.kn
  obtain⟨v1,v2,v3,v4,v5,Zy,v6,v7⟩:=y.vh st hs
  have hkv0:=ku v7
  have hhl:=sS (I.vj st hs) λt ht=>(I.lD st hs t ht).1
  refine⟨_,rfl,_,rfl,d,A.gn,Y.dx,_,_,rfl,y.hd,O.gE,O.i_,tH _ _ _,_,rfl,a,A.g_,dx,_,_,rfl,g1,O.jn,O.iU,sG,Y.n,_,rfl,nE.k (k:=sk p.nm) y.hn (by omega),?_⟩
  have f1:∀{b o},H3 b=some o->b≠Y.n->upd H3 Y.n (.dK (putK Y.kN (sk p.nm) (.ref nd))) b=some o:=λ{b o} e n=>by rw[d_ n];exact e
  have Mt:d≠Y.n:=iS y.hd y.hn (λz=>by cases z)
  have han:a≠Y.n:=iS g1 y.hn (λz=>by cases z)
  have SG:d≠Y.m:=iS y.hd y.hm (λz=>by cases z)
  have ham:a≠Y.m:=iS g1 y.hm (λz=>by cases z)
  refine⟨_,rfl,_,rfl,d,A.gn,Y.dx,_,_,rfl,f1 y.hd Mt,O.gE,O.iX,p_ _ _ _,_,rfl,a,A.g_,dx,_,_,rfl,f1 g1 han,O.jn,O.iU,sG,Y.m,_,rfl,nE.k (k:=sk p.nm) (f1 y.hm x.mn) (by omega),?_⟩
  have f2:∀{b o},H3 b=some o->b≠Y.n->b≠Y.m->upd (upd H3 Y.n (.dK (putK Y.kN (sk p.nm) (.ref nd)))) Y.m (.dK (putK Y.kM (sk p.nm) (.ref a))) b=some o:=λ{b o} e n m=>by rw[d_ m];exact f1 e n
  refine⟨_,rfl,d,A.gn,Y.dx,_,_,rfl,f2 y.hd Mt SG,O.gE,O.iw,k_ _ _ _,_,rfl,Y.h,.ref (Y.ha st),rfl,?_,_,rfl,a,A.g_,dx,_,_,rfl,f2 g1 han ham,O.jn,O.iU,sG,Y.ha st,_,rfl,nE.k (k:=sk p.nm) (f2 v6 v4 v3) (by omega),?_⟩
  ·have:=i6.k (k:=sk st) (f2 y.hh x.nh.symm x.mh.symm)
   rw[v1] at this
   exact this
  ·have Vt:p.nm∉D.held st:=λz=>fresh (I.lD st hs _ z).1
   have f3:∀{b o},H3 b=some o->b≠Y.n->b≠Y.m->b≠Y.ha st->upd (upd (upd H3 Y.n (.dK (putK Y.kN (sk p.nm) (.ref nd)))) Y.m (.dK (putK Y.kM (sk p.nm) (.ref a)))) (Y.ha st) (.dK (putK Zy (sk p.nm) (V.bl true))) b=some o:=λ{b o} e n m h=>by rw[d_ h];exact f2 e n m
   have f4:∀{b q},om A H3 b q->om A (upd (upd (upd H3 Y.n (.dK (putK Y.kN (sk p.nm) (.ref nd)))) Y.m (.dK (putK Y.kM (sk p.nm) (.ref a)))) (Y.ha st) (.dK (putK Zy (sk p.nm) (V.bl true)))) b q:=λz=>((z.dk y.hn).dk (f1 y.hm x.mn)).dk (f2 v6 v4 v3)
   have nW:∀{b},¬W b->b≠Y.n/\b≠Y.m/\b≠Y.ha st:=λ{b} h=>⟨λz=>h (by rw[z];exact x.wn),λz=>h (by rw[z];exact x.wm),λz=>h (by rw[z];exact v2)⟩
   refine q _ ⟨{Y with kM:=putK Y.kM (sk p.nm) (.ref a),kN:=putK Y.kN (sk p.nm) (.ref nd)},?_⟩ λb o e n=>f3 (s3 _ _ e) (nW n).1 (nW n).2.1 (nW n).2.2
   have G7:(D.keep st p).names=D.names++[p.nm]:=by
    show(D.made++[p]).map (·.nm)=_
    rw[aaG];rfl
   exact{
    hd:=f3 y.hd Mt SG (iS y.hd v6 (λz=>by cases z))
    hm:=by
     show upd _ (Y.ha st) _ Y.m=_
     rw[d_ v3.symm];exact b_
    hn:=by
     show upd _ (Y.ha st) _ Y.n=_
     rw[d_ v4.symm,d_ x.mn.symm];exact b_
    hh:=f3 y.hh x.nh.symm x.mh.symm v5.symm
    mn:=x.mn
    mh:=x.mh
    nh:=x.nh
    wm:=x.wm
    wn:=x.wn
    wh:=x.wh
    km:=by rw[G7];exact p8 x.km fresh _
    vm:=λq hq=>by
     show ∃b,iN (putK Y.kM (sk p.nm) (.ref a)) (sk q.nm)=some (.ref b)/\_
     rw[ke]
     rcases aak.mp hq with hq|hq
     ·obtain⟨b,w1,w2⟩:=y.vm q hq
      have oa:q.nm≠p.nm:=λz=>fresh (by rw[<-z];exact aae hq)
      rw[aav (λz=>oa (acF z))]
      exact⟨b,w1,f4 w2⟩
     ·rw[XS.mp hq,aax rfl]
      exact⟨a,rfl,f4 (Mu.same s3)⟩
    kn:=by rw[G7];exact p8 x.kn fresh _
    vn:=λt ht=>by
     rw[G7] at ht
     show ∃(b:Addr)(kv:List (Key×V))(l:List Str),iN (putK Y.kN (sk p.nm) (.ref nd)) (sk t)=some (.ref b)/\¬W b/\_/\kv.map (·.1)=l.map sk/\l.Nodup/\∀u,u∈l↔u∈(if t=p.nm then qw D.iE p else D.iE t)
     rw[ke]
     by_cases e:t=p.nm
     ·rw[aax (by rw[e]),aax e]
      refine⟨nd,kv,l,rfl,WW,f3 e2 (nW WW).1 (nW WW).2.1 (nW WW).2.2,e3,e4,λu=>?_⟩
      rw[e5 u]
      unfold qw
      rw[abi]
      exact⟨λ⟨z,h1,h2⟩=>⟨z,h1,aag.mpr h2⟩,λ⟨z,h1,h2⟩=>⟨z,h1,aag.mp h2⟩⟩
     ·rw[aav (λz=>e (acF z)),aav e]
      have SH:t∈D.names:=(aak.mp ht).elim id λz=>absurd (XS.mp z) e
      obtain⟨b,ZC,l',w1,w2,w3,w4⟩:=y.vn t SH
      exact⟨b,ZC,l',w1,w2,f3 w3 (nW w2).1 (nW w2).2.1 (nW w2).2.2,w4⟩
    kh:=x.kh
    vh:=λt ht=>by
     obtain⟨h1,h2,h3,h4,h5,ZC,h6,h7⟩:=y.vh t ht
     refine⟨h1,h2,h3,h4,h5,?_⟩
     show ∃kv:List (Key×V),_/\kv.map (·.1)=(if t=st then D.held st++[p.nm] else D.held t).map sk
     by_cases e:t=st
     ·subst e
      rw[aax rfl]
      exact⟨_,b_,p8 v7 Vt _⟩
     ·rw[aav e]
      exact⟨ZC,f3 h6 h4 h3 (λz=>e (x.inj t ht st hs z)),h7⟩
    inj:=x.inj
    dk:=λb hb=>by
     by_cases h1:b=Y.ha st
     ·rw[h1];exact⟨_,b_⟩
     ·by_cases h2:b=Y.m
      ·rw[h2,d_ v3.symm];exact⟨_,b_⟩
      ·by_cases h3:b=Y.n
       ·rw[h3,d_ v4.symm,d_ x.mn.symm];exact⟨_,b_⟩
       ·obtain⟨kv,h⟩:=y.dk b hb
        exact⟨kv,f3 h h3 h2 h1⟩}
theorem IX(D:Dk)(s x:Str):D.take s x=xt D s (D.held s++D.oh s x):=rfl
theorem IY(D:Dk)(s x:Str):D.drop s x=xt D s ((D.held s).filter λy=>y≠x):=rfl
theorem IZ(D:Dk)(s:Str)(l l':List Str):xt (xt D s l) s l'=xt D s l':=by
 unfold xt
 congr 1
 funext t
 show(if t=s then l' else(if t=s then l else D.held t))=_
 by_cases e:t=s
 ·rw[aax e,aax e]
 ·rw[aav e,aav e,aav e]
theorem I_(D:Dk)(s:Str):xt D s (D.held s)=D:=by
 cases D
 unfold xt
 congr 1
 funext t
 show(if t=s then _ else _)=_
 by_cases e:t=s
 ·rw[aax e,e]
 ·rw[aav e]
def QR(A:Ad):Sp:=λvs H Q E=>∃(d:Addr)(D:Dk)(W:Addr->Prop)(s c x:Str),vs=[.ref d,.str s,.str c,.str x]/\ib A H d D W/\Inv D/\xp D.made.length/\kW s/\kW c/\kW x/\
 (s∉D.stores->E (.ref A.iP) none H)/\(s∈D.stores->c∉D.stores->E (.ref A.iP) none H)/\(s∈D.stores->c∈D.stores->x∉D.held c->E (.ref A.jY) none H)/\
 (s∈D.stores->c∈D.stores->x∈D.held c->∀p H1 H',gh H H1->H1 p=none->H' p=some (.lst (gk (D.oh s x)))->ib A H' d (D.take s x) W->oW W (upd H1 p (.lst (gk (D.oh s x)))) H'->Q (.ref p) H')
theorem GO{D:Dk}(I:Inv D){s x:Str}(hx:x∈D.names):(D.oh s x).Nodup/\∀y∈D.oh s x,y∈D.names/\y∉D.held s:=by
 refine⟨?_,λy hy=>?_⟩
 ·refine acp aa5 ?_
  rw[abh]
  refine⟨acp aa5 I.nd,by simp,λa ha b hb z=>?_⟩
  rw[XS.mp hb] at z
  subst z
  exact I.BW hx (aaA (aao.mp ha).2)
 ·obtain⟨h1,h2⟩:=aao.mp hy
  refine⟨?_,aaA h2⟩
  rcases aak.mp h1 with h|h
  ·exact(aao.mp h).1
  ·rw[XS.mp h];exact hx
theorem NF(T:Txt mg)(O:Ok K mg A):ig P w K mg base (tT P w) 3 A.yi A.yj ["self","store","source","patch"] (QR A):=by
 have ia:=@jZ P w K mg base A T O
 have jL:=@pb P w K mg base A T O
 have DB:=@Le P w K mg base A T O
 refine O.B1.f.rB lU λju A0 outer s H vs Q E hr h=>?_
 obtain⟨d,D,W,st,c,y,rfl,X,I,jM,hf,hfc,G6,q1,q2,q3,q4⟩:=h
 obtain⟨Y,x⟩:=id X
 have y0:D.made.length<=4000:=jM
 have sz:sizeLine=16777216:=aaP
 have RA:D.names.length=D.made.length:=by unfold Dk.names;rw[O4]
 refine⟨_,(de (hV (zN bx (pv 0) O.gE O.iQ ia hr (a_ (pv 1) e_)))
   (de (hV (zN bx (pv 0) O.gE O.iQ ia hr (a_ (pv 2) e_)))
   (de (hV (zN bx (pv 0) O.gE O.lu jL hr (a_ (pv 2) (a_ (pv 3) e_))))
   (de (k7 4 lU (gp mO (zN bx (pv 0) O.gE O.Ap DB hr (a_ (pv 3) e_)) (iB (a_ (pv 3) e_))))
   (de (wK (j:=5) xZ (gb oG).names [6] lU.nd rfl rfl rfl (ie (pv 4)) rfl (by decide+kernel) (λ_ _ _ _=>(iu (i:=6) lU.nd rfl (Or.inl rfl))) (λ_ _ _ _=>⟨_,nM (jv (lC (by exact iT hr) (pv 6) (zO hr (gA (pv 0) rfl) (pv 1)))),by(try simp only [kO]);rfl⟩) (λ_ _ _ _=>zb (pv 6)))
   (de (iD Kb rfl (ie (pv 5)) (tL 6 lU) (fR (jB (by exact iT hr) (zO hr (gA (pv 0) rfl) (pv 1)) (pv 6) kc rfl)))
   (fR (hG (pv 5))))))))),?_⟩
 refine sl7 ?_;intro _ _ _ _ _ _
 refine⟨_,rfl,d,Y.dx,_,rfl,x.hd,jz,_,rfl,d,D,W,st,rfl,X,hf,λhs=>?_,λhs=>q1 hs⟩
 refine⟨_,rfl,d,Y.dx,_,rfl,x.hd,jz,_,rfl,d,D,W,c,rfl,X,hfc,λhc=>?_,λhc=>q2 hs hc⟩
 refine⟨_,rfl,d,Y.dx,_,rfl,x.hd,o_,_,rfl,_,rfl,d,D,W,c,y,rfl,X,hfc,G6,hc,λhy=>?_,λhy=>q3 hs hc hy⟩
 have hyn:y∈D.names:=(I.lD c hc y hy).1
 have Y7:(D.nR y).length<=D.names.length:=aaX _ _
 refine⟨_,rfl,d,Y.dx,_,rfl,x.hd,K_,_,rfl,d,D,W,y,rfl,X,G6,jM,λh=>absurd hyn h,λ_ p pq=>?_⟩
 have s1:=(gh.refl H).new (o:=.lst (gk (D.nR y))) pq
 refine⟨_,rfl,L2.jM,λb hb=>?_⟩
 have s2:=s1.new (o:=.lst [V.str y]) hb
 refine⟨p,b,_,_,rfl,rfl,hZ hb b_,b_,by rw[O4];show _+1<=_;omega,λwt Sw=>?_⟩
 have s3:=s2.new (o:=.lst (gk (D.nR y)++[V.str y])) Sw
 have ZD:(upd (upd (upd H p (.lst (gk (D.nR y)))) b (.lst [V.str y])) wt (.lst (gk (D.nR y)++[V.str y]))) wt=some (.lst (gk (D.nR y++[y]))):=by rw[b_,iZ]
 generalize upd (upd (upd H p (.lst (gk (D.nR y)))) b (.lst [V.str y])) wt (.lst (gk (D.nR y)++[V.str y]))=H3 at s3 ZD
 have x3:=x.same s3
 obtain⟨v1,v2,v3,v4,v5,kv,v6,v7⟩:=x3.vh st hs
 refine⟨_,rfl,wt,rfl,⟨_,gC.of ZD⟩,jE (K:=K) (a:=wt) (xs:=gk (D.nR y++[y])) (by rw[O4,YN];show _+1<=_;omega) (λi ys Z H4=>∃(v6:Option V)(zs:List Str),Z=[rr d,rs st,rs c,rs y,rr wt,none,v6]/\H4=H3/\ys=gk zs/\zs.length<=i/\zs=((D.nR y++[y]).take i).filter λz=>z∉D.held st)
  ⟨none,[],rfl,rfl,rfl,XU _,rfl⟩ (by rintro _ _ _ _ _ ⟨_,zs,_,e,e2,e3,_⟩;rw[e,e2];exact⟨gC.of ZD,by rw[O4];exact e3⟩) ?_ ?_⟩
 ·rintro i v ys Z H4 hx ⟨ZE,zs,rfl,rfl,rfl,e3,e4⟩
  obtain⟨z,hz,rfl⟩:=lO hx
  refine⟨_,rfl,_,rfl,d,A.gn,Y.dx,_,_,rfl,x3.hd,O.gE,O.iw,k_ _ _ _,_,rfl,Y.h,.ref (Y.ha st),rfl,?_,Y.ha st,_,rfl,i6.k (k:=sk z) v6,_,rfl,?_⟩
  ·have:=i6.k (k:=sk st) x3.hh
   rw[v1] at this
   exact this
  ·rw[kx v7,take_snoc hz,aaH]
   by_cases hm:z∈D.held st
   ·rw[XZ hm]
    refine jg ⟨_,_,rfl,rfl,rfl,by omega,?_⟩
    rw[e4,aai (by simpa using hm),aa2,aaZ]
   ·rw[aap hm]
    refine lK ⟨_,rfl,_,_,rfl,rfl,iZ _ _,OH,?_⟩
    rw[e4,YR (by simpa using hm),aa2]
 ·rintro ys Z H4 ⟨ZE,zs,rfl,rfl,rfl,e3,e4⟩ cm Sn
  have e0:(gk (D.nR y++[y])).length=(D.nR y++[y]).length:=by rw[O4]
  rw[e0,aaD] at e4
  have e4:zs=D.oh st y:=e4
  subst e4
  obtain⟨nc1,nc2⟩:=GO (s:=st) I hyn
  have Ms:=sS nc1 λt ht=>(nc2 t ht).1
  have s4:=s3.new (o:=.lst (gk (D.oh st y))) Sn
  have x4:=x.same s4
  have L3:(upd H4 cm (.lst (gk (D.oh st y)))) cm=some (.lst (gk (D.oh st y))):=b_
  have Vu:¬W cm:=λz=>by obtain⟨kv,e⟩:=x4.dk cm z;rw[L3] at e;cases e
  have Vv:=λH' a b c=>q4 hs hc hy cm H4 H' s3 Sn a b c
  generalize upd H4 cm (.lst (gk (D.oh st y)))=H5 at s4 x4 L3 Vv
  dsimp only [l7];refine Jz ?_;intro _
  let Jv:=λ(i:Nat) (Z:St) (H6:Hp)=>∃(v6:Option V)(Y':Dp),Z=[rr d,rs st,rs c,rs y,rr wt,rr cm,v6]/\OK A H6 d (xt D st (D.held st++(D.oh st y).take i)) W Y'/\oW W H5 H6
  refine⟨_,rfl,cm,rfl,⟨_,gC.of L3⟩,iV (K:=K) (a:=cm) (xs:=gk (D.oh st y)) Jv
   ⟨none,Y,rfl,by rw[abU,aaZ,I_];exact x4,λb o e _=>e⟩ (by rintro _ _ _ _ ⟨_,_,_,_,e⟩;exact gC.of (e _ _ L3 Vu)) ?_ ?_⟩
  ·rintro i v Z H6 hx ⟨ZE,Y',rfl,x6,e6⟩
   obtain⟨z,hz,rfl⟩:=lO hx
   have hi:i<(D.oh st y).length:=(List.getElem?_eq_some_iff.mp hz).1
   obtain⟨w1,w2,w3,w4,w5,kv6,w6,w7⟩:=x6.vh st hs
   have w7:kv6.map (·.1)=(D.held st++(D.oh st y).take i).map sk:=by
    rw[w7]
    show(if st=st then _ else _:List Str).map sk=_
    rw[aax rfl]
   have JB:=ku w7
   have hhl:=sS (I.vj st hs) λt ht=>(I.lD st hs t ht).1
   rw[YN,aaO] at JB
   refine⟨_,rfl,d,A.gn,Y'.dx,_,_,rfl,x6.hd,O.gE,O.iw,k_ _ _ _,_,rfl,Y'.h,.ref (Y'.ha st),rfl,?_,_,rfl,Y'.ha st,_,rfl,nE.k (k:=sk z) w6 (by omega),?_⟩
   ·have:=i6.k (k:=sk st) x6.hh
    rw[w1] at this
    exact this
   ·have Vw:z∉D.held st++(D.oh st y).take i:=λhm=>by
     rcases aak.mp hm with hm|hm
     ·exact(nc2 z (XY hz)).2 hm
     ·obtain⟨j,hj⟩:=aaT.mp hm
      have Jt:j<i:=by have:=(List.getElem?_eq_some_iff.mp hj).1;rw[aaO] at this;omega
      rw[ab_,aax Jt] at hj
      have:=(abR (List.getElem?_eq_some_iff.mp hj).1 nc1).mp (hj.trans hz.symm)
      omega
    have x7:=x6.xt (l:=D.held st++(D.oh st y).take (i+1)) (kv:=putK kv6 (sk z) (V.bl true)) hs (by rw[take_snoc hz,<-aa4];exact p8 w7 Vw _)
    rw[IZ] at x7
    exact⟨_,Y',rfl,x7,λb o e n=>by rw[d_ (λ(z:b=Y'.ha st)=>n (by rw[z];exact w2))];exact e6 b o e n⟩
  ·rintro Z H6 ⟨ZE,Y',rfl,x6,e6⟩
   rw[O4,aaD,<-IX] at x6
   exact⟨_,rfl,Vv H6 (e6 _ _ L3 Vu) ⟨Y',x6⟩ e6⟩
def QS(A:Ad):Sp:=λvs H Q E=>∃(d:Addr)(D:Dk)(W:Addr->Prop)(s x:Str),vs=[.ref d,.str s,.str x]/\ib A H d D W/\Inv D/\xp D.made.length/\kW s/\kW x/\(∀z∈D.names,kW z)/\
 (s∉D.stores->E (.ref A.iP) none H)/\(s∈D.stores->x∉D.held s->E (.ref A.jY) none H)/\(s∈D.stores->x∈D.held s->¬(∀z∈D.held s,x∉D.iE z)->E (.ref A.tq) none H)/\(s∈D.stores->x∈D.held s->(∀z∈D.held s,x∉D.iE z)->∀H',ib A H' d (D.drop s x) W->oW W H H'->Q .jc H')
theorem NG(T:Txt mg)(O:Ok K mg A):ig P w K mg base (tT P w) 2 A.yk A.yl ["self","store","patch"] (QS A):=by
 have ia:=@jZ P w K mg base A T O
 have jL:=@pb P w K mg base A T O
 refine O.B2.f.rB vA λju A0 outer s H vs Q E hr h=>?_
 obtain⟨d,D,W,st,y,rfl,X,I,jM,hf,G6,hfz,q1,q2,q3,q5⟩:=h
 obtain⟨Y,x⟩:=id X
 have y0:D.made.length<=4000:=jM
 have sz:sizeLine=16777216:=aaP
 refine⟨_,(de (hV (zN bx (pv 0) O.gE O.iQ ia hr (a_ (pv 1) e_)))
   (de (hV (zN bx (pv 0) O.gE O.lu jL hr (a_ (pv 1) (a_ (pv 2) e_))))
   (de (za (iD Kb rfl (CJ (zO hr (gA (pv 0) rfl) (pv 1))) (tL 3 vA) (fR (ip (jv (o3 (by exact iT hr) (pv 2) (zO hr (gA (pv 0) rfl) (pv 3)))) (fR (KA (ki bx O.Nj (by rfl) (lN (iq (mQ (pv 3)) (iq i5 (iq (mQ (pv 2)) nN))))))) hU))))
   (fR (hV (JZ (zO hr (gA (pv 0) rfl) (pv 1)) (pv 2) ⟨rfl,rfl,rfl,rfl⟩)))))),?_⟩
 refine OE ?_;intro _ _ _
 refine⟨_,rfl,d,Y.dx,_,rfl,x.hd,jz,_,rfl,d,D,W,st,rfl,X,hf,λhs=>?_,λhs=>q1 hs⟩
 refine⟨_,rfl,d,Y.dx,_,rfl,x.hd,o_,_,rfl,_,rfl,d,D,W,st,y,rfl,X,hf,G6,hs,λhy=>?_,λhy=>q2 hs hy⟩
 obtain⟨v1,v2,v3,v4,v5,kv,v6,v7⟩:=x.vh st hs
 have hdg:i6 H Y.h (.str st) (some (.ref (Y.ha st))):=by
  have:=i6.k (k:=sk st) x.hh
  rw[v1] at this
  exact this
 refine⟨_,rfl,d,A.gn,Y.dx,_,_,rfl,x.hd,O.gE,O.iw,k_ _ _ _,_,rfl,Y.h,.ref (Y.ha st),rfl,hdg,Y.ha st,kv,rfl,v6,λo uz=>?_⟩
 have f:∀{b u},H b=some u->b≠Y.ha st->upd H (Y.ha st) (.ni o (.dK kv)) b=some u:=λ{b u} e n=>by rw[d_ n];exact e
 have O2:d≠Y.ha st:=iS x.hd v6 (λz=>by cases z)
 let Jv:=λ(i:Nat) (Z:St) (H3:Hp)=>∃(v:Option V),Z=[rr d,rs st,rs y,v]/\H3=upd H (Y.ha st) (.ni o (.dK kv))/\∀z∈(D.held st).take i,y∉D.iE z
 refine Kf (d:=Y.ha st) (o:=o) (kvs:=kv) Jv ⟨none,rfl,rfl,λz hz=>by rw[abU] at hz;cases hz⟩ (by rintro _ _ _ ⟨_,_,e,_⟩;rw[e];exact b_) ?_ ?_
 ·rintro i k v Z H3 hi ⟨v0,rfl,rfl,Jq⟩
  obtain⟨z,hz,rfl⟩:=xr v7 hi
  have hzh:z∈D.held st:=XY hz
  have Oc:=(I.lD st hs z hzh).1
  obtain⟨a,ka,la,w1,w2,w3,w4,_,w6⟩:=x.vn z Oc
  refine⟨_,rfl,_,rfl,d,A.gn,Y.dx,_,_,rfl,f x.hd O2,O.gE,O.i_,tH _ _ _,_,rfl,Y.n,.ref a,rfl,?_,a,_,rfl,i6.k (k:=sk y) (f w3 (λz=>w2 (by rw[z];exact v2))),_,rfl,?_⟩
  ·have:=i6.k (k:=sk z) (f x.hn v4.symm)
   rw[w1] at this
   exact this
  ·rw[kx w4]
   by_cases WX:y∈D.iE z
   ·rw[XZ ((w6 y).mpr WX)]
    refine lK ⟨Y.ha st,o,_,b_,uz,?_⟩
    rw[wQ v6]
    have WA:=(hfz z Oc).1
    exact⟨_,rfl,_,rfl,WA,_,rfl,WA,⟨_,rfl,by decide+kernel,⟨_,rfl,_,rfl,G6.1,_,rfl,G6.1,λ_=>q3 hs hy λh=>h z hzh WX⟩⟩⟩
   ·rw[aap (λh=>WX ((w6 y).mp h))]
    refine jg ⟨_,rfl,rfl,λt ht=>?_⟩
    rw[take_snoc hz] at ht
    rcases aak.mp ht with ht|ht
    ·exact Jq t ht
    ·rw[XS.mp ht];exact WX
 ·rintro Z H3 ⟨v0,rfl,rfl,wo⟩
  have JB:=ku v7
  rw[JB,aaD] at wo
  have q4:=q5 hs hy wo
  refine⟨Y.ha st,o,_,b_,uz,?_⟩
  rw[wQ v6]
  have Dy:∃v,iN kv (sk y)=some v:=by
   have:=kx v7 y
   rw[XZ hy] at this
   exact Option.isSome_iff_exists.mp this
  obtain⟨vv,hvv⟩:=Dy
  refine⟨_,rfl,d,A.gn,Y.dx,_,_,rfl,x.hd,O.gE,O.iw,k_ _ _ _,_,rfl,Y.h,.ref (Y.ha st),rfl,hdg,Y.ha st,rfl,.inl ⟨_,.inl v6⟩,_,rfl,kv,sk y,vv,v6,rfl,hvv,?_⟩
  refine q4 _ ⟨Y,?_⟩ λb u e n=>by rw[d_ (λ(z:b=Y.ha st)=>n (by rw[z];exact v2))];exact e
  rw[IY]
  exact x.xt hs (GN v7)
theorem Ay(l:List Str):Paired (λ(x:Str) (v:V)=>v=.str x) l (gk l):=by
 induction l with
 | nil=>exact .nil
 | cons x r ih=>exact .cons rfl ih
theorem NH{n:Nat}{K:Qqy}{H:Hp}{a c:Addr}{x y:List Str}(h1:gC K H a (gk x))(h2:gC K H c (gk y)):mL K H (n+1) (.ref a) (.ref c) (decide (x=y)):=
 mL.MU (F:=λ(x:Str) (v:V)=>v=.str x) (λp q u v hu hv=>by subst hu hv;exact mL.CH p q) h1 h2 (Ay x) (Ay y)
def NI(n:Int):Int->List Int->Prop
 | _,[]=>True
 | l,p::r=>(l<=p/\p<n)/\NI n (p+1) r
def Lf(A:Ad):Sp:=λvs H Q E=>∃(a:Addr)(ps:List Int)(n:Int),vs=[.ref a,.int n]/\H a=some (.lst (ps.map V.int))/\(∀p∈ps,p.natAbs.log2<1920)/\(NI n 0 ps->Q .jc H)/\(¬NI n 0 ps->E (.ref A.n_) none H)
theorem yX(T:Txt mg)(O:Ok K mg A):ig P w K mg base (tT P w) 1 A.r_ A.sd ["places","size"] (Lf A):=by
 refine O.vR.f.rB ll λju A0 outer s H vs Q E hr h=>?_
 obtain⟨a,ps,n,rfl,ha,RH,q,qe⟩:=h
 refine⟨_,(de (k7 2 ll f_)
   (fR (iD Kb rfl (ie (pv 0)) (tL 3 ll) (de (ip (kC (Ef JL Ed (pv 2) (pv 3) (pv 1))) (fR (ki bx O.KS (by rfl) (lN (iq i5 (iq (Kj (pv 3)) (iq i5 nN)))))) hU)
   (fR (k7 2 ll (gp iy (pv 3) f_))))))),?_⟩
 refine Mm ?_;intro _
 let Jv:=λ(i:Nat) (Z:St) (H2:Hp)=>∃(l:Int)(v:Option V),Z=[rr a,ri n,ri l,v]/\H2=H/\(NI n 0 ps↔NI n l (ps.drop i))
 refine⟨_,rfl,a,rfl,⟨_,gC.of ha⟩,iV (K:=K) (a:=a) (xs:=ps.map V.int) Jv ⟨0,none,rfl,rfl,Iff.rfl⟩ (by rintro _ _ _ _ ⟨_,_,_,e,_⟩;rw[e];exact gC.of ha) ?_ ?_⟩
 ·rintro i v Z H2 hx ⟨l,v0,rfl,rfl,e⟩
  rw[aan] at hx
  obtain⟨p,hp,rfl⟩:=Option.map_eq_some_iff.mp hx
  have hi:i<ps.length:=(List.getElem?_eq_some_iff.mp hp).1
  have hd:ps.drop i=p::ps.drop (i+1):=by rw[aa6 hi];congr 1;exact(List.getElem?_eq_some_iff.mp hp).2
  rw[hd] at e
  have hl:=RH p (XY hp)
  refine⟨_,rfl,_,rfl,_,_,rfl,rfl,_,rfl,?_⟩
  refine kZ (λh1=>?_) (λh1=>?_)
  ·have h1:l<=p:=by simpa using h1
   refine⟨_,rfl,_,_,rfl,rfl,_,rfl,?_⟩
   refine kZ (λh2=>?_) (λh2=>?_)
   ·have h2:¬p<n:=by simpa using h2
    refine⟨_,rfl,by decide+kernel,⟨_,rfl,_,rfl,hl,_,rfl,?_⟩⟩
    exact⟨aam (PyProof.Rows.int_text_len_1921 hl) (by decide),⟨_,rfl,by decide+kernel,λ_=>qe λz=>h2 (e.mp z).1.2⟩⟩
   ·have h2:p<n:=by simpa using h2
    refine⟨_,rfl,_,_,rfl,rfl,_,_,rfl,rfl,e.trans ⟨λz=>z.2,λz=>⟨⟨h1,h2⟩,z⟩⟩⟩
  ·have h1:¬l<=p:=by simpa using h1
   refine⟨_,rfl,?_⟩
   refine⟨_,rfl,by decide+kernel,⟨_,rfl,_,rfl,hl,_,rfl,?_⟩⟩
   exact⟨aam (PyProof.Rows.int_text_len_1921 hl) (by decide),⟨_,rfl,by decide+kernel,λ_=>qe λz=>h1 (e.mp z).1.1⟩⟩
 ·rintro Z H2 ⟨l,v0,rfl,rfl,e⟩
  rw[O4,acE] at e
  exact q (e.mpr trivial)
def Ug(A:Ad):Sp:=λvs H Q E=>∃(d t:Addr)(D:Dk)(W:Addr->Prop)(s x f:Str)(texts:List Str),vs=[.ref d,.str s,.str x,.str f,.ref t]/\ib A H d D W/\Inv D/\Small D.made/\(D.made.flatMap (·.ix)).length<=1000/\kW s/\kW x/\kW f/\H t=some (.lst (gk texts))/\texts.length<=1000/\
 (s∉D.stores->E (.ref A.iP) none H)/\
 (s∈D.stores->¬(Good x/\Good f)->∀H',gh H H'->E (.ref A.jC) none H')/\
 (s∈D.stores->Good x->Good f->x∈D.names->∀H',gh H H'->E (.ref A.js) none H')/\
 (s∈D.stores->Good x->Good f->x∉D.names->D.jR s f≠[]->∀H',gh H H'->E (.ref A.lF) none H')/\
 (s∈D.stores->Good x->Good f->x∉D.names->D.jR s f=[]->(D.row s f).map (·.tx)=texts->∀H',gh H H'->E (.ref A.uy) none H')/\
 (s∈D.stores->Good x->Good f->x∉D.names->D.jR s f=[]->(D.row s f).map (·.tx)≠texts->∀H',ib A H' d (D.keep s (jW x f (D.row s f) texts)) W->oW W H H'->Q .jc H')
theorem lH{x f:Str}:(∀y∈[x,f],Good y)↔Good x/\Good f:=by
 constructor
 ·exact λh=>⟨h x (by simp),h f (by simp)⟩
 ·rintro⟨h1,h2⟩ y hy
  rcases aag.mp hy with z|z
  ·rw[z];exact h1
  ·rw[XS.mp z];exact h2
theorem wa{D:Dk}(I:Inv D){s f x:Str}(hs:s∈D.stores)(texts:List Str):∀y∈ik (jW x f (D.row s f) texts),y∈D.names:=by
 intro y hy
 unfold ik at hy
 rcases aak.mp hy with hy|hy
 ·obtain⟨m,hm,rfl⟩:=List.mem_map.mp hy
  obtain⟨hm,hn⟩:=aao.mp hm
  have hn:m.1≠x:=aaA hn
  have fin:m∈(D.row s f).map (·.nm)->m.1∈D.names:=λh=>by
   obtain⟨l,hl,rfl⟩:=List.mem_map.mp h
   obtain⟨p,h1,_,h3⟩:=I.tj hl
   have hp:=(Inv.lh.mp h1).1
   rw[me (I.DZ p hp) (aae h3)]
   exact aae hp
  rcases aak.mp hm with hm|hm
  ·obtain⟨l,hl,rfl⟩:=List.mem_map.mp hm
   exact fin (aae (aao.mp hl).1)
  ·obtain⟨l,hl,hm⟩:=abi.mp hm
   have Mr:l.up=some m\/l.lo=some m:=by
    rcases aak.mp hm with hm|hm
    ·exact .inl (by simpa using hm)
    ·exact .inr (by simpa using hm)
   rcases zd texts 0 0 none l hl m Mr with(z|⟨t,z⟩)|z
   ·cases z
   ·obtain⟨q,_,_,l',yK,rfl⟩:=CM z
    exact fin (aae (XY yK))
   ·rw[vg] at z
    obtain⟨j,_,rfl⟩:=List.mem_map.mp z
    exact absurd rfl hn
 ·cases hy
theorem qP{x f:Str}{row:List Ln}{texts:List Str}:(jW x f row texts).ix.length<=texts.length/\(jW x f row texts).jt.length<=row.length:=by
 have rise:=pH (row.map (·.tx)) texts
 rw[O4] at rise
 have h:=Hw rise x
 refine⟨by show(kj x texts _).length<=_;omega,?_⟩
 show((row.filter _).map _).length<=_
 rw[O4]
 exact aaX _ _
theorem Cd(T:Txt mg)(O:Ok K mg A):ig P w K mg base (tT P w) 6 A.ub A.uc ["self","store","patch","file","texts"] (Ug A):=by
 have ia:=@jZ P w K mg base A T O
 have j1:=@qO P w K mg base A T O
 have jh:=@oY P w K mg base A T O
 have kY:=@sN P w K mg base A T O
 have xH:=@vZ P w K mg base A T O
 have mI:=@Dj P w K mg base A T O
 refine O.sD.f.rB nZ λju A0 outer s H vs Q E hr h=>?_
 obtain⟨d,t,D,W,st,y,f,texts,rfl,X,I,sm,ZF,wy,G6,RI,ht,N6,q1,q2,q3,q4,q5,q6⟩:=h
 obtain⟨Y,x⟩:=id X
 have sz:sizeLine=16777216:=aaP
 have Dx:(D.row st f).length<=1000:=aam (I.vp st f) ZF
 refine⟨_,(de (hV (zN bx (pv 0) O.gE O.iQ ia hr (a_ (pv 1) e_)))
   (de (hV (zN bx (pv 0) O.gE O.lZ j1 hr (a_ (pv 2) (a_ (iB (a_ (pv 3) e_)) e_))))
   (de (k7 5 nZ (zN bx (pv 0) O.gE O.k9 jh hr (a_ (pv 1) (a_ (pv 3) e_))))
   (de (ip (uW (Eg (pv 5) O.j9 O.jJ.t kY (hr.mono (by decide)) O.jJ.b .nil pE) (λ_=>rfl)) (fR (ki bx O.E2 (by rfl) (lN (iq i5 (iq (mQ (pv 3)) (iq i5 nN)))))) hU)
   (de (ip (hX (J7 3 (by exact OD hr)) (tS tX (gb my).names [6] rfl (ie (gA (pv 5) rfl)) rfl (by decide+kernel) (λ_ _ _ _=>(iu (i:=6) nZ.nd rfl (Or.inl rfl))) (λ_ _ _ _=>lM) (λ_ _ _ _=>zb (gA (pv 6) rfl))) (pv 4) (iA _)) (fR (ki bx O.KU (by rfl) (lN (iq i5 (iq (mQ (pv 3)) (iq i5 nN)))))) hU)
   (fR (hV (xV (pv 0) O.gE O.tw mI hr (a_ (pv 1) (a_ (og O.sC xH hr (a_ (pv 2) (a_ (pv 3) (a_ (gA (pv 5) rfl) (a_ (pv 4) e_))))) e_)))))))))),?_⟩
 refine R7 ?_;intro _ _ _ _ _
 refine⟨_,rfl,d,Y.dx,_,rfl,x.hd,jz,_,rfl,d,D,W,st,rfl,X,wy,λhs=>?_,λhs=>q1 hs⟩
 refine⟨_,rfl,d,Y.dx,_,rfl,x.hd,qM,_,rfl,_,rfl,L2.jM,λl hl=>?_⟩
 have s1:gh H (upd H l (.lst [V.str f])):=(gh.refl H).new hl
 refine⟨d,l,D,W,y,[f],rfl,X.same s1,b_,by show 1<=1000;decide,λz hz=>?_,λh H' s'=>q2 hs (λg=>h (lH.mpr g)) H' (s1.trans s'),λh hn H' s'=>q3 hs (lH.mp h).1 (lH.mp h).2 hn H' (s1.trans s'),λh hn H2 s2=>?_⟩
 ·rcases aag.mp hz with z|z
  ·rw[z];exact G6
  ·rw[XS.mp z];exact RI
 obtain⟨gy,gf⟩:=lH.mp h
 have D3:=s1.trans s2
 have X2:=X.same D3
 refine⟨_,rfl,d,Y.dx,_,rfl,D3 _ _ x.hd,oX,_,rfl,_,rfl,d,D,W,st,f,rfl,X2,wy,sm,I,λh=>absurd hs h,λ_ p H3 s3 pq sg=>?_⟩
 obtain⟨px,ah,ln,g1,g2,⟨as,g3,g4⟩⟩:=id sg
 have L4:=D3.trans s3
 have hlen:=aau g4
 refine⟨_,rfl,p,px,_,rfl,g1,K7 ah ln,p,_,_,rfl,sg,Lc I st f,aam Dx (by decide),λr H4 vs s4 tJ xF zo=>?_⟩
 have Pd:=L4.trans s4
 have HZ:=aau zo
 by_cases hq:D.jR st f=[]
 case neg=>
  have ZG:vs≠[]:=λz=>hq (by
   have e:(jb (Ah (gm (D.jQ st) f)) (D.row st f)).length=0:=by rw[HZ,z];rfl
   exact aaQ.mp e)
  refine⟨true,.inl ⟨_,gC.of xF,by simpa using ZG⟩,lK ?_⟩
  exact⟨_,rfl,by decide+kernel,⟨_,rfl,_,rfl,RI.1,_,rfl,RI.1,⟨_,rfl,by decide+kernel,λ_=>q4 hs gy gf hn hq _ Pd⟩⟩⟩
 have ZG:vs=[]:=by
  have e:(jb (Ah (gm (D.jQ st) f)) (D.row st f)).length=0:=by rw[show jb (Ah (gm (D.jQ st) f)) (D.row st f)=[] from hq];rfl
  rw[HZ] at e
  exact aaQ.mp e
 refine⟨false,.inl ⟨_,gC.of xF,by rw[ZG];rfl⟩,jg ?_⟩
 have g14:=s4 _ _ g1
 have ZH:=s4 _ _ g3
 let Jv:=λ(i:Nat) (ys:List V) (Z:St) (H5:Hp)=>∃(v6:Option V),Z=[rr d,rs st,rs y,rs f,rr t,rr p,v6]/\H5=H4/\ys=gk (((D.row st f).take i).map (·.tx))
 refine⟨_,rfl,p,A.h_,px,_,_,rfl,g14,O.j9,O.il,lG ah ln,ln,rfl,⟨_,gC.of ZH⟩,jE (K:=K) (a:=ln) (xs:=as.map V.ref) (by rw[O4];omega) Jv
  ⟨none,rfl,rfl,rfl⟩ (by rintro _ _ _ _ _ ⟨_,_,e,e2⟩;rw[e,e2];exact⟨gC.of ZH,by rw[O4,O4,aaO];omega⟩) ?_ ?_⟩
 ·rintro i v ys Z H5 hx ⟨v6,rfl,rfl,rfl⟩
  obtain⟨b,hb,rfl⟩:=j_ hx
  obtain⟨l2,FQ,dx,vn,vu,vl,k1,k2,k3,k4⟩:=ic g4 hb
  refine⟨_,rfl,b,A.gH,dx,_,_,rfl,s4 _ _ k1,O.iL,O.jK,Aq,_,rfl,rfl,?_⟩
  rw[take_snoc FQ,aaG,iZ]
  rfl
 ·rintro ys Z H5 ⟨v6,rfl,rfl,rfl⟩ o WS
  rw[O4,hlen,aaD]
  have s5:=Pd.new (o:=.lst (gk ((D.row st f).map (·.tx)))) WS
  have Od:gh H5 (upd H5 o (.lst (gk ((D.row st f).map (·.tx))))):=(gh.refl H5).new WS
  refine⟨_,rfl,_,⟨o,t,rfl,rfl⟩,NH (gC.of b_) (gC.of (s5 _ _ ht)),_,rfl,?_⟩
  by_cases he:(D.row st f).map (·.tx)=texts
  ·rw[XZ he]
   refine lK ?_
   exact⟨_,rfl,by decide+kernel,⟨_,rfl,_,rfl,RI.1,_,rfl,RI.1,⟨_,rfl,by decide+kernel,λ_=>q5 hs gy gf hn hq he _ s5⟩⟩⟩
  ·rw[aap he]
   refine jg ?_
   have X5:=X.same s5
   refine⟨_,rfl,d,Y.dx,_,rfl,s5 _ _ x.hd,Dg,_,rfl,_,rfl,_,rfl,_,rfl,p,A.h_,px,_,_,rfl,Od _ _ g14,O.j9,O.il,lG ah ln,_,rfl,y,f,ln,t,D.row st f,texts,rfl,⟨as,Od _ _ ZH,Paired.i4 g4 λ_ _ z=>(z.same s4).same Od⟩,s5 _ _ ht,Dx,N6,λpa H6 s6 hpa0 ZI=>?_⟩
   have Vx:=s5.trans s6
   obtain⟨cl1,cl2⟩:=qP (x:=y) (f:=f) (row:=D.row st f) (texts:=texts)
   refine⟨d,pa,D,W,st,_,rfl,X.same Vx,I,sm.many,hs,ZI,hn,aam cl1 (aam N6 (by decide)),aam cl2 (aam Dx (by decide)),wa I hs texts,λH7 X7 s7=>?_⟩
   exact q6 hs gy gf hn hq he H7 X7 λb o e n=>s7 b o (Vx _ _ e) n
def QT(A:Ad):Sp:=λvs H Q E=>∃(d:Addr)(D:Dk)(W:Addr->Prop)(s x o:Str),vs=[.ref d,.str s,.str x,.str o]/\ib A H d D W/\Inv D/\xp D.made.length/\kW s/\kW x/\kW o/\
 (s∉D.stores->E (.ref A.iP) none H)/\(s∈D.stores->¬Good x->∀H',gh H H'->E (.ref A.jC) none H')/\(s∈D.stores->Good x->x∈D.names->∀H',gh H H'->E (.ref A.js) none H')/\
 (s∈D.stores->Good x->x∉D.names->o∉D.held s->∀H',gh H H'->E (.ref A.jY) none H')/\
 (s∈D.stores->Good x->x∉D.names->o∈D.held s->∀H',ib A H' d (D.keep s ⟨x,none,[],[],some o⟩) W->oW W H H'->Q .jc H')
theorem Az{x:Str}:(∀y∈[x],Good y)↔Good x:=⟨λh=>h x (by simp),λh y hy=>by rw[XS.mp hy];exact h⟩
theorem NJ(T:Txt mg)(O:Ok K mg A):ig P w K mg base (tT P w) 4 A.yg A.yh ["self","store","patch","other"] (QT A):=by
 have ia:=@jZ P w K mg base A T O
 have j1:=@qO P w K mg base A T O
 have jL:=@pb P w K mg base A T O
 have j0:=@o9 P w K mg base A T O
 have mI:=@Dj P w K mg base A T O
 refine O.B0.f.rB CU λju A0 outer s H vs Q E hr h=>?_
 obtain⟨d,D,W,st,y,ot,rfl,X,I,jM,wy,G6,hfo,q1,q2,q3,q4,q5⟩:=h
 obtain⟨Y,x⟩:=id X
 refine⟨_,(de (hV (zN bx (pv 0) O.gE O.iQ ia hr (a_ (pv 1) e_)))
   (de (hV (zN bx (pv 0) O.gE O.lZ j1 hr (a_ (pv 2) (a_ (iB e_) e_))))
   (de (hV (zN bx (pv 0) O.gE O.lu jL hr (a_ (pv 1) (a_ (pv 3) e_))))
   (fR (hV (xV (pv 0) O.gE O.tw mI hr (a_ (pv 1) (a_ (uY O.C3 j0 (hr.mono (by decide)) (by rfl) O.C4 O.lY.b .nil pE (a_ (pv 2) (a_ ui (a_ (iB e_) (a_ (iB e_) (a_ (pv 3) e_)))))) e_)))))))),?_⟩
 refine OE ?_;intro _ _ _
 refine⟨_,rfl,d,Y.dx,_,rfl,x.hd,jz,_,rfl,d,D,W,st,rfl,X,wy,λhs=>?_,λhs=>q1 hs⟩
 refine⟨_,rfl,d,Y.dx,_,rfl,x.hd,qM,_,rfl,L2.jM,λl hl=>?_⟩
 have s1:gh H (upd H l (.lst [])):=(gh.refl H).new hl
 refine⟨d,l,D,W,y,[],rfl,X.same s1,b_,by show 0<=1000;decide,λz hz=>by rw[XS.mp hz];exact G6,λh H' s'=>q2 hs (λg=>h (Az.mpr g)) H' (s1.trans s'),λh hn H' s'=>q3 hs (Az.mp h) hn H' (s1.trans s'),λh hn H2 s2=>?_⟩
 have gy:=Az.mp h
 have D3:=s1.trans s2
 refine⟨_,rfl,d,Y.dx,_,rfl,D3 _ _ x.hd,o_,_,rfl,_,rfl,d,D,W,st,ot,rfl,X.same D3,wy,hfo,hs,λho=>?_,λho=>q4 hs gy hn ho _ D3⟩
 refine⟨_,rfl,d,Y.dx,_,rfl,D3 _ _ x.hd,Dg,_,rfl,_,rfl,L2.jM,λa ha=>⟨L2.jM,λb hb=>⟨_,rfl,?_⟩⟩⟩
 have s3:=D3.new (o:=.lst []) ha
 have s4:=s3.new (o:=.lst []) hb
 intro o dx no RC Zm
 refine⟨o,dx,_,_,_,_,_,rfl,b_,λH5 r6 r7=>⟨rfl,?_⟩⟩
 have s5:gh (upd (upd H2 a (.lst [])) b (.lst [])) H5:=λc u ec=>by
  rw[r6 c (gg ec no),d_ (gg ec no),d_ (gg ec RC)]
  exact ec
 have s15:=s4.trans s5
 have pt:om A H5 o ⟨y,none,[],[],some ot⟩:=⟨dx,_,a,b,.str ot,r7,rfl,⟨[],s5 _ _ (hZ hb b_),.nil⟩,⟨[],s5 _ _ b_,.nil⟩,rfl⟩
 refine⟨d,o,D,W,st,_,rfl,X.same s15,I,jM,hs,pt,hn,aaY _,aaY _,λz hz=>?_,λH7 X7 s7=>?_⟩
 ·have:z=ot:=by simpa[ik,named] using hz
  rw[this];exact(I.lD st hs ot ho).1
 ·exact q5 hs gy hn ho H7 X7 λb o e n=>s7 b o (s15 _ _ e) n
def Uh(A:Ad):Sp:=λvs H Q E=>∃(d t:Addr)(D:Dk)(W:Addr->Prop)(s x f:Str)(ps:List Int),vs=[.ref d,.str s,.str x,.str f,.ref t]/\ib A H d D W/\Inv D/\Small D.made/\kW s/\kW x/\kW f/\H t=some (.lst (ps.map V.int))/\ps.length<=1000/\(∀p∈ps,p.natAbs.log2<1920)/\
 (s∉D.stores->E (.ref A.iP) none H)/\
 (s∈D.stores->¬(Good x/\Good f)->∀H',gh H H'->E (.ref A.jC) none H')/\
 (s∈D.stores->Good x->Good f->x∈D.names->∀H',gh H H'->E (.ref A.js) none H')/\
 (s∈D.stores->Good x->Good f->x∉D.names->¬NI (D.row s f).length 0 ps->∀H',gh H H'->E (.ref A.n_) none H')/\
 (s∈D.stores->Good x->Good f->x∉D.names->ps=[]->∀H',gh H H'->E (.ref A.uy) none H')/\
 (s∈D.stores->Good x->Good f->x∉D.names->NI (D.row s f).length 0 ps->ps≠[]->∀H',ib A H' d (D.keep s ⟨x,some f,[],ps.filterMap λp=>((D.row s f)[p.toNat]?).map (·.nm),none⟩) W->oW W H H'->Q .jc H')
theorem HD{n:Int}:∀{l:Int} {ps:List Int},0<=l->NI n l ps->∀p∈ps,0<=p/\p<n
 | _,[],_,_,p,hp=>by cases hp
 | l,q::r,h0,h,p,hp=>by
  obtain⟨⟨h1,h2⟩,h3⟩:=h
  rcases aag.mp hp with rfl|hp
  ·exact⟨by omega,h2⟩
  ·exact HD (by omega) h3 p hp
theorem Lg(T:Txt mg)(O:Ok K mg A):ig P w K mg base (tT P w) 6 A.Ai A.Aj ["self","store","patch","file","places"] (Uh A):=by
 have ia:=@jZ P w K mg base A T O
 have j1:=@qO P w K mg base A T O
 have jh:=@oY P w K mg base A T O
 have AL:=@yX P w K mg base A T O
 have j0:=@o9 P w K mg base A T O
 have mI:=@Dj P w K mg base A T O
 refine O.Ao.f.rB rX λju A0 outer s H vs Q E hr h=>?_
 obtain⟨d,t,D,W,st,y,f,ps,rfl,X,I,sm,wy,G6,RI,ht,N6,RH,q1,q2,q3,q4,q5,q6⟩:=h
 obtain⟨Y,x⟩:=id X
 have sz:sizeLine=16777216:=aaP
 have Dx:(D.row st f).length<=4000:=aam (I.vp st f) sm.ix
 refine⟨_,(de (hV (zN bx (pv 0) O.gE O.iQ ia hr (a_ (pv 1) e_)))
   (de (hV (zN bx (pv 0) O.gE O.lZ j1 hr (a_ (pv 2) (a_ (iB (a_ (pv 3) e_)) e_))))
   (de (ly (i:=5) rX.nd rfl (Or.inr rfl) (gA (zN bx (pv 0) O.gE O.k9 jh hr (a_ (pv 1) (a_ (pv 3) e_))) rfl))
   (de (hV (XX bx O.vR AL hr (a_ (pv 4) (a_ (gz gq (by rfl) T.jx aaL (a_ (pv 5) e_)) e_))))
   (de (ip (kC (uW (pv 4) (λ_=>rfl))) (fR (ki bx O.KU (by rfl) i5)) hU)
   (fR (hV (xV (pv 0) O.gE O.tw mI hr (a_ (pv 1) (a_ (uY O.C3 j0 (hr.mono (by decide)) (by rfl) O.C4 O.lY.b .nil pE (a_ (pv 2) (a_ (pv 3) (a_ (iB e_) (a_ (tS z8 (gb qE).names [6] rfl (ie (pv 4)) rfl (by decide+kernel) (λ_ _ _ _=>(iu (i:=6) rX.nd rfl (Or.inl rfl))) (λ_ _ _ _=>lM) (λ_ _ _ _=>zb (gA (kK (pv 5) (pv 6)) rfl))) (a_ ui e_)))))) e_)))))))))),?_⟩
 refine R7 ?_;intro _ _ _ _ _
 refine⟨_,rfl,d,Y.dx,_,rfl,x.hd,jz,_,rfl,d,D,W,st,rfl,X,wy,λhs=>?_,λhs=>q1 hs⟩
 refine⟨_,rfl,d,Y.dx,_,rfl,x.hd,qM,_,rfl,_,rfl,L2.jM,λl hl=>?_⟩
 have s1:gh H (upd H l (.lst [V.str f])):=(gh.refl H).new hl
 refine⟨d,l,D,W,y,[f],rfl,X.same s1,b_,by show 1<=1000;decide,λz hz=>?_,λh H' s'=>q2 hs (λg=>h (lH.mpr g)) H' (s1.trans s'),λh hn H' s'=>q3 hs (lH.mp h).1 (lH.mp h).2 hn H' (s1.trans s'),λh hn H2 s2=>?_⟩
 ·rcases aag.mp hz with z|z
  ·rw[z];exact G6
  ·rw[XS.mp z];exact RI
 obtain⟨gy,gf⟩:=lH.mp h
 have D3:=s1.trans s2
 have X2:=X.same D3
 refine⟨_,rfl,d,Y.dx,_,rfl,D3 _ _ x.hd,oX,_,rfl,_,rfl,d,D,W,st,f,rfl,X2,wy,sm,I,λh=>absurd hs h,λ_ p H3 s3 pq ⟨px,ah,ln,g1,g2,⟨as,g3,g4⟩⟩=>?_⟩
 have L4:=D3.trans s3
 have hlen:=aau g4
 have el:((as.map V.ref).length:Int)=((D.row st f).length:Int):=by rw[O4,hlen]
 refine⟨p,A.h_,px,_,_,rfl,g1,O.j9,O.il,lG ah ln,?_⟩
 refine⟨_,rfl,_,rfl,ln,_,rfl,.inl (gC.of g3),?_⟩
 rw[el]
 refine⟨t,ps,_,rfl,L4 _ _ ht,RH,λok=>?_,λnok=>q4 hs gy gf hn nok _ L4⟩
 by_cases WY:ps=[]
 ·refine⟨_,rfl,false,.inl ⟨_,gC.of (L4 _ _ ht),by rw[WY];rfl⟩,?_⟩
  exact q5 hs gy gf hn WY _ L4
 ·refine⟨_,rfl,true,.inl ⟨_,gC.of (L4 _ _ ht),by simpa using WY⟩,?_⟩
  refine jg ?_
  refine⟨_,rfl,d,Y.dx,_,rfl,L4 _ _ x.hd,Dg,_,rfl,_,rfl,_,rfl,L2.jM,λa ha=>?_⟩
  have s4:=L4.new (o:=.lst []) ha
  have RJ:gh H3 (upd H3 a (.lst [])):=(gh.refl H3).new ha
  have WV:(upd H3 a (.lst [])) a=some (.lst []):=b_
  generalize upd H3 a (.lst [])=H4 at s4 RJ WV
  let Jv:=λ(i:Nat) (ys:List V) (Z:St) (H5:Hp)=>∃(v6:Option V),Z=[rr d,rs st,rs y,rs f,rr t,rr ln,v6]/\H5=H4/\ys.length<=i/\Paired (lI H3) ys ((ps.take i).filterMap λp=>((D.row st f)[p.toNat]?).map (·.nm))
  refine⟨_,rfl,t,rfl,⟨_,gC.of (s4 _ _ ht)⟩,jE (K:=K) (a:=t) (xs:=ps.map V.int) (by rw[O4];omega) Jv
   ⟨none,rfl,rfl,XU _,.nil⟩ (by rintro _ _ _ _ _ ⟨_,_,e,e2,_⟩;rw[e];exact⟨gC.of (s4 _ _ ht),e2⟩) ?_ ?_⟩
  ·rintro i v ys Z H5 hx ⟨v6,rfl,rfl,e2,e3⟩
   rw[aan] at hx
   obtain⟨pl,nJ,rfl⟩:=Option.map_eq_some_iff.mp hx
   obtain⟨b1,b2⟩:=HD (by decide) ok pl (XY nJ)
   have j3:pl.toNat<(D.row st f).length:=by omega
   have BA:(D.row st f)[pl.toNat]?=some (D.row st f)[pl.toNat]:=UQ j3
   obtain⟨b,hb,dx,vn,vu,vl,k1,⟨nt,rfl,k2⟩,k3,k4⟩:=Au g4 BA
   refine⟨_,rfl,_,rfl,ln,_,_,_,rfl,rfl,gC.of (RJ _ _ g3),gs (j:=pl.toNat) (by omega) hb,b,A.gH,dx,_,_,rfl,RJ _ _ k1,O.iL,O.gF,iY,?_⟩
   refine⟨_,rfl,rfl,OH,?_⟩
   rw[take_snoc nJ,abW,abD,BA]
   exact ij e3 ⟨nt,rfl,k2⟩
  ·rintro ys Z H5 ⟨v6,rfl,rfl,e2,e3⟩ c hc
   rw[O4,aaD] at e3
   have s5:=s4.new (o:=.lst ys) hc
   intro o dx no RC Zm
   refine⟨o,dx,_,_,_,_,_,rfl,b_,λH6 r6 r7=>⟨rfl,?_⟩⟩
   have s6:gh (upd H5 c (.lst ys)) H6:=λb u ec=>by
    rw[r6 b (gg ec no),d_ (gg ec no),d_ (gg ec RC)]
    exact ec
   have Vx:=s5.trans s6
   have s36:gh H3 H6:=(RJ.new hc).trans s6
   have pt:om A H6 o ⟨y,some f,[],ps.filterMap λp=>((D.row st f)[p.toNat]?).map (·.nm),none⟩:=⟨dx,_,a,c,.jc,r7,rfl,⟨[],s6 _ _ (hZ hc WV),.nil⟩,⟨ys,s6 _ _ b_,Paired.i4 e3 λ_ _ z=>z.same s36⟩,rfl⟩
   have Ms:(ps.filterMap λp=>((D.row st f)[p.toNat]?).map (·.nm)).length<=4000:=aam (acg _ _) (by omega)
   refine⟨d,o,D,W,st,_,rfl,X.same Vx,I,sm.many,hs,pt,hn,aaY _,Ms,λz hz=>?_,λH7 X7 s7=>q6 hs gy gf hn ok WY H7 X7 λb o e n=>s7 b o (Vx _ _ e) n⟩
   unfold ik at hz
   rcases aak.mp hz with hz|hz
   ·obtain⟨m,hm,rfl⟩:=List.mem_map.mp hz
    have hm:=(aao.mp hm).1
    have hm:m∈(ps.filterMap λp=>((D.row st f)[p.toNat]?).map (·.nm)):=by simpa[named] using hm
    obtain⟨pl,_,nJ⟩:=abw.mp hm
    obtain⟨l',yK,rfl⟩:=Option.map_eq_some_iff.mp nJ
    obtain⟨q,h1,_,h3⟩:=I.tj (XY yK)
    have hq:=(Inv.lh.mp h1).1
    rw[me (I.DZ q hq) (aae h3)]
    exact aae hq
   ·cases hz
noncomputable def cellAt(ns:List Int)(k:Int):Int:=(ns[k.toNat]?).getD 0
noncomputable def Dl(i:Int):Str:=⟨#[(l9.cps[(i%36).toNat]?).getD 0]⟩
noncomputable def kJ(cell k:Int):Nat->Str
 | 0=>Str.ofString ""
 | j+1=>kJ cell k j++(if(j:Int)=cell/12%(1+cell%12) then Dl (k+cell/144) else Dl (cell/144+5*(j:Int)+cell/5184%2*k*7))
noncomputable def nameOf(cell k:Int):Str:=kJ cell k (1+cell%12).toNat
theorem Dm:l9.length=36:=by decide+kernel
theorem Lh:l9.cps.size=36:=Dm
theorem Dq(a b:Str):(a++b).cps.toList=a.cps.toList++b.cps.toList:=Array.toList_append
theorem HE(a b:Str):(a++b).length=a.length+b.length:=Array.size_append
theorem zh(i:Int):∃c,Gf l9.cps.toList (i%36)=some c/\Dl i=⟨#[c]⟩/\c∈l9.cps.toList:=by
 have b:=mod_lt i 36 (by decide)
 obtain⟨c,e,ev⟩:=rJ (xs:=l9.cps.toList) b.1 (by rw[aa3,Lh];exact b.2)
 rw[abq] at ev
 exact⟨c,e,by unfold Dl;rw[ev];rfl,XY (i:=(i%36).toNat) (by rw[abq];exact ev)⟩
theorem zi(cell k:Int):∀j,(kJ cell k j).length=j/\∀c∈(kJ cell k j).cps.toList,c∈l9.cps.toList
 | 0=>⟨by unfold kJ;decide+kernel,λc hc=>by
   have:(kJ cell k 0).cps.toList=[]:=by unfold kJ;decide+kernel
   rw[this] at hc;cases hc⟩
 | j+1=>by
  have ⟨h1,h2⟩:=zi cell k j
  unfold kJ
  obtain⟨c1,_,e1,m1⟩:=zh (k+cell/144)
  obtain⟨c2,_,e2,m2⟩:=zh (cell/144+5*(j:Int)+cell/5184%2*k*7)
  split
  ·rw[e1,HE,Dq]
   refine⟨by rw[h1];rfl,λc hc=>?_⟩
   rcases aak.mp hc with hc|hc
   ·exact h2 c hc
   ·rw[XS.mp hc];exact m1
  ·rw[e2,HE,Dq]
   refine⟨by rw[h1];rfl,λc hc=>?_⟩
   rcases aak.mp hc with hc|hc
   ·exact h2 c hc
   ·rw[XS.mp hc];exact m2
theorem qb(cell k:Int):Good (nameOf cell k):=by
 obtain⟨h1,h2⟩:=zi cell k (1+cell%12).toNat
 have b:=mod_lt cell 12 (by decide)
 exact⟨by unfold nameOf;rw[h1];omega,by unfold nameOf;rw[h1];omega,h2⟩
theorem NK{x:Str}(h:x.length<=1000)(hc:∀c∈x.cps.toList,c<1114112):kW x:=by
 refine⟨?_,h⟩
 have z:=PySem.StrLaws.reprText_len x λc Bu=>Nat.lt_trans (hc c Bu) (by decide)
 omega
theorem Li:∀c∈l9.cps.toList,c<1114112:=by decide+kernel
theorem Good.uE{x:Str}(g:Good x):kW x:=NK (by have:=g.2.1;omega) λc hc=>Li c (g.2.2 c hc)
noncomputable def HF(i:Int):Nat:=(l9.cps[(i%36).toNat]?).getD 0
theorem Ja{i j:Int}(h:HF i=HF j):i%36=j%36:=by
 have key:∀a<36,∀b<36,(l9.cps[a]?).getD 0=(l9.cps[b]?).getD 0->a=b:=by decide+kernel
 have b1:=mod_lt i 36 (by decide)
 have b2:=mod_lt j 36 (by decide)
 have:=key (i%36).toNat (by omega) (j%36).toNat (by omega) h
 omega
theorem Dr(cell k:Int):∀n j,j<n->(kJ cell k n).cps.toList[j]?=some (if(j:Int)=cell/12%(1+cell%12) then HF (k+cell/144) else HF (cell/144+5*(j:Int)+cell/5184%2*k*7))
 | 0,j,h=>by omega
 | n+1,j,h=>by
  have hl:(kJ cell k n).cps.toList.length=n:=by rw[aa3];exact(zi cell k n).1
  rw[kJ,Dq]
  by_cases e:j=n
  ·subst e
   rw[abk (by omega),hl,Nat.sub_self]
   split<;>rfl
  ·rw[abT (by omega)]
   exact Dr cell k n j (by omega)
theorem wb{c i j:Int}(h0:0<=i)(h1:i<36)(h2:0<=j)(h3:j<36)(h:nameOf c i=nameOf c j):i=j:=by
 have b:=mod_lt c 12 (by decide)
 have b2:=mod_lt (c/12) (1+c%12) (by omega)
 have e1:=Dr c i (1+c%12).toNat (c/12%(1+c%12)).toNat (by omega)
 have e2:=Dr c j (1+c%12).toNat (c/12%(1+c%12)).toNat (by omega)
 have h:kJ c i (1+c%12).toNat=kJ c j (1+c%12).toNat:=h
 rw[h] at e1
 rw[e1] at e2
 rw[aax (by omega),aax (by omega)] at e2
 have:=Ja (aaE e2)
 omega
def QU(K:Qqy):Sp:=λvs H Q _=>∃(a:Addr)(ns:List Int)(k:Int),vs=[.ref a,.int k]/\gC K H a (ns.map V.int)/\0<=k/\Q (.int (cellAt ns k)) H
theorem HG(T:Txt mg)(O:Ok K mg A):ig P w K mg base mK 1 A.se A.si ["script","k"] (QU K):=by
 refine O.i9.f.rA yT λju A outer s H vs Q E hr h=>?_
 obtain⟨a,ns,k,rfl,ha,h0,q⟩:=h
 refine⟨_,(de (ip (hX Ed (pv 1) (gz gq (by rfl) T.jx aaL (a_ (pv 0) e_)) (iA _)) (fR (hG (kK (pv 0) (pv 1)))) hU)
   (fR (hG f_))),?_⟩
 refine Mm ?_;intro _
 refine⟨_,rfl,_,rfl,a,_,rfl,.inl ha,_,_,rfl,rfl,_,rfl,?_⟩
 refine kZ (λhc=>?_) (λhc=>?_)
 ·have hc:k<((ns.map V.int).length:Int):=aaA hc
  obtain⟨v,e,ev⟩:=rJ h0 hc
  rw[aan] at ev
  cases en:ns[k.toNat]? with
  | none=>rw[en] at ev;cases ev
  | some z=>
   rw[en] at ev
   cases ev
   unfold cellAt at q
   rw[en] at q
   exact⟨_,rfl,_,rfl,a,_,_,_,rfl,rfl,ha,e,q⟩
 ·have hc:¬k<((ns.map V.int).length:Int):=by simpa using hc
  unfold cellAt at q
  rw[O4] at hc
  rw[List.getElem?_eq_none (by omega)] at q
  exact q
def QV:Sp:=λvs H Q _=>∃(c k:Int),vs=[.int c,.int k]/\Q (.str (nameOf c k)) H
theorem HH(T:Txt mg)(O:Ok K mg A):ig P w K mg base mK 1 A.yq A.yr ["cell","k"] QV:=by
 refine O.p6.f.rA jl λju A outer s H vs Q E hr h=>?_
 obtain⟨c,k,rfl,q⟩:=h
 refine⟨_,(de (k7 2 jl i5)
   (de (k7 3 jl (gp iy f_ (gp iz (pv 0) f_)))
   (de (k7 4 jl (gp jk (pv 0) f_))
   (de (k7 5 jl (gp rE (gp rE (gp iz (gp jk (pv 0) f_) f_) (pv 1)) f_))
   (de (k7 6 jl i5)
   (de (iD aaM rfl (jT rfl T.lr (a_ (pv 3) e_)) (tL 7 jl) (fR (ip (hX mB (pv 7) (gp iz (gp jk (pv 0) f_) (pv 3)) (iA _)) (fR (k7 6 jl (gp zw (pv 6) (jq Gg (pv 2) (gp iz (gp iy (pv 1) (pv 4)) f_) (λ_ _=>rfl))))) (fR (k7 6 jl (gp zw (pv 6) (jq Gg (pv 2) (gp iz (gp iy (gp iy (pv 4) (gp rE f_ (pv 7))) (pv 5)) f_) (λ_ _=>rfl))))))))
   (fR (hG (pv 6))))))))),?_⟩
 refine sl7 ?_;intro _ _ _ _ _ _
 have b:=mod_lt c 12 (by decide)
 have b2:=mod_lt (c/5184) 2 (by decide)
 refine⟨_,rfl,_,_,rfl,rfl,(by show(0:Int)<12;decide),_,_,rfl,rfl,?_⟩
 refine⟨_,rfl,_,_,rfl,rfl,⟨by decide,by decide⟩,?_⟩
 refine⟨_,rfl,_,_,rfl,rfl,⟨by decide,by decide⟩,_,_,rfl,rfl,(by show(0:Int)<2;decide),_,rfl,_,_,rfl,rfl,.inl ⟨by omega,by omega⟩,_,_,rfl,rfl,.inr ⟨by decide,by decide⟩,?_⟩
 refine⟨_,rfl,_,rfl,by omega,by omega,?_⟩
 let Jv:=λ(j:Nat) (Z:St) (H2:Hp)=>∃v,Z=[ri c,ri k,rs l9,ri (1+c%12),ri (c/144),ri (c/5184%2*k*7),rs (kJ c k j),v]/\H2=H
 refine lB Jv ⟨none,rfl,rfl⟩ ?_ ?_
 ·rintro j Z H2 hj ⟨v,rfl,rfl⟩
  have hlen:=(zi c k j).1
  have hz:(kJ c k j).length+1<=sizeLine:=aam (m:=13) (by omega) (by decide)
  refine⟨_,rfl,_,rfl,_,_,rfl,rfl,⟨by decide,by decide⟩,_,rfl,_,_,rfl,rfl,(by show(0:Int)<1+c%12;omega),rfl,_,rfl,?_⟩
  refine kZ (λhc=>?_) (λhc=>?_)
  ·have hc:(0:Int)+(j:Int)=c/12%(1+c%12):=V.int.inj (aaA hc)
   obtain⟨cp,e,es,_⟩:=zh (k+c/144)
   refine⟨_,rfl,_,rfl,_,rfl,_,rfl,_,_,rfl,rfl,_,_,rfl,rfl,(by show(0:Int)<36;decide),_,_,cp,rfl,rfl,by rw[Dm];decide,e,_,_,rfl,rfl,hz,some (.int (0+(j:Int))),?_,rfl⟩
   rw[kJ,aax (by omega),es]
   rfl
  ·have hc:¬(0:Int)+(j:Int)=c/12%(1+c%12):=λz=>hc (XZ (abd V.int z))
   obtain⟨cp,e,es,_⟩:=zh (c/144+5*(j:Int)+c/5184%2*k*7)
   refine⟨_,rfl,_,rfl,_,rfl,_,rfl,_,_,rfl,rfl,.inl ⟨by decide,by decide⟩,_,_,rfl,rfl,_,rfl,_,_,rfl,rfl,_,_,rfl,rfl,(by show(0:Int)<36;decide),_,_,cp,rfl,rfl,by rw[Dm];decide,by rw[Int.zero_add];exact e,_,_,rfl,rfl,hz,some (.int (0+(j:Int))),?_,rfl⟩
   rw[kJ,aav (by omega),es]
   rfl
 ·rintro Z H2 ⟨v,rfl,rfl⟩
  refine⟨_,rfl,?_⟩
  have:(1+c%12-0).toNat=(1+c%12).toNat:=by rw[Int.sub_zero]
  exact q
def QW:Sp:=λvs H Q _=>∃(c k b:Int),vs=[.int c,.int k,.int b]/\0<b/\0<=k/\k<=1000/\∀x,0<=x->x<b->Q (.int x) H
theorem NL(T:Txt mg)(O:Ok K mg A):ig P w K mg base mK 1 A.yo A.yp ["cell","k","bound"] QW:=by
 refine O.B3.f.rA qJ λju A outer s H vs Q E hr h=>?_
 obtain⟨c,k,b,rfl,hb,SE,Vn,q⟩:=h
 refine⟨_,(de (k7 3 qJ (gp iz (gp rE (gp iy (gp iy (gp iz (pv 0) f_) (gp rE f_ (pv 1))) f_) f_) f_))
  (de (k7 3 qJ (gp iz (gp rE (gp iy (pv 3) (gp rE f_ (gp iy (pv 1) f_))) f_) f_))
  (fR (hG (gp iz (gp jk (pv 3) f_) (pv 2)))))),?_⟩
 refine FO ?_;intro _ _
 refine⟨_,rfl,_,_,rfl,rfl,(by show(0:Int)<2147483647;decide),_,rfl,_,_,rfl,rfl,.inl ⟨by decide,by decide⟩,_,_,rfl,rfl,_,_,rfl,rfl,_,_,rfl,rfl,.inr ⟨by decide,by decide⟩,_,_,rfl,rfl,(by show(0:Int)<2147483647;decide),?_⟩
 refine⟨_,rfl,_,rfl,_,_,rfl,rfl,_,_,rfl,rfl,.inl ⟨by decide,by decide⟩,_,_,rfl,rfl,_,_,rfl,rfl,.inr ⟨by decide,by decide⟩,_,_,rfl,rfl,(by show(0:Int)<2147483629;decide),?_⟩
 exact⟨_,rfl,_,_,rfl,rfl,⟨by decide,by decide⟩,_,rfl,_,_,rfl,rfl,hb,q _ (mod_lt _ b hb).1 (mod_lt _ b hb).2⟩
def xu:Str:=Str.ofString " !#$&()*+,-./0123456789:;<=>?@ABCDEFGHIJKLMNOPQRSTUVWXYZ[]^_abcdefghijklmnopqrstuvwxyz{|}~"
theorem tI:xu.length=90:=by decide+kernel
def QX:Sp:=λvs H Q _=>∃(c:Int),vs=[.int c]/\∀x H',gh H H'->Q (.str x) H'
theorem Fi:∀(xs:List Str),(∀x∈xs,x.length=1)->(xs.map (·.length)).sum=xs.length
 | [],_=>rfl
 | x::r,h=>by
  rw[aaK,List.sum_cons,h x aaC,Fi r λy hy=>h y (aal _ hy),aah]
  omega
theorem NM(T:Txt mg)(O:Ok K mg A):ig P w K mg base mK 1 A.yt A.yu ["cell"] QX:=by
 refine O.xn.f.rA lV λju A outer s H vs Q E hr h=>?_
 obtain⟨c,rfl,q⟩:=h
 refine⟨_,(de (ly (i:=1) lV.nd rfl (Or.inr rfl) i5)
   (de (ip (hX mB (gp iz (pv 0) f_) f_ (iA _)) (fR (hG (kK (iB (a_ i5 (a_ i5 (a_ i5 (a_ i5 e_))))) (gp iz (gp jk (pv 0) f_) f_)))) hU)
   (de (k7 2 lV (gp iz (gp jk (pv 0) f_) f_))
   (de (qk (ip (hX mB (gp iz (gp jk (pv 0) f_) f_) f_ (iA _)) (fR (k7 2 lV f_)) hU))
   (fR (hG (pB PySem.F.plainAttrs_str PySem.F.slot_str_join PySem.F.type_str_join MT i5 (a_ (tS x8 (gb oH).names [3] rfl (jT rfl T.lr (a_ (pv 2) e_)) rfl (by decide+kernel) (λ_ _ _ _=>(iu (i:=3) lV.nd rfl (Or.inl rfl))) (λ_ _ _ _=>lM) (λ_ _ _ _=>zb (jq Gg (pv 1) (gp iz (gp iy (gp jk (pv 0) f_) (gp rE f_ (pv 3))) (gz u_ (by rfl) T.jx aaL (a_ (pv 1) e_))) (λ_ _=>rfl)))) e_)))))))),?_⟩
 refine R6 ?_;intro _ _ _ _
 refine⟨_,rfl,_,_,rfl,rfl,(by show(0:Int)<3;decide),rfl,_,rfl,?_⟩
 refine kZ (λ_=>?_) (λ_=>?_)
 ·refine⟨jM,λl hl=>?_⟩
  refine⟨_,rfl,_,_,rfl,rfl,⟨by decide,by decide⟩,_,_,rfl,rfl,(by show(0:Int)<4;decide),?_⟩
  have b:=mod_lt (c/3) 4 (by decide)
  obtain⟨v,e,ev⟩:=rJ (xs:=[V.str (Str.ofString "a"),V.str (Str.ofString "b"),V.str (Str.ofString ""),V.str (Str.ofString " ")]) b.1 (by simpa using b.2)
  refine⟨l,_,_,v,rfl,rfl,gC.of b_,e,?_⟩
  have hv:∃x,v=V.str x:=by
   have hm:=XY ev
   simp at hm
   rcases hm with rfl|rfl|rfl|rfl<;>exact⟨_,rfl⟩
  obtain⟨x,rfl⟩:=hv
  exact q x _ ((gh.refl H).new hl)
 ·refine⟨_,rfl,_,_,rfl,rfl,⟨by decide,by decide⟩,_,_,rfl,rfl,(by show(0:Int)<5;decide),?_⟩
  have b:=mod_lt (c/3) 5 (by decide)
  refine⟨λZ H2=>∃(z:Int)(v:Option V),Z=[ri c,rs xu,ri z,v]/\H2=H/\0<=z/\z<=80,?_,?_⟩
  ·refine⟨_,rfl,_,_,rfl,rfl,⟨by decide,by decide⟩,_,_,rfl,rfl,(by show(0:Int)<9;decide),rfl,_,rfl,?_⟩
   refine kZ (λ_=>?_) (λ_=>?_)
   ·exact⟨80,_,rfl,rfl,by decide,by decide⟩
   ·exact⟨_,_,rfl,rfl,b.1,by omega⟩
  ·rintro Z H2 ⟨z,v,rfl,rfl,z0,z1⟩
   refine⟨rfl,_,rfl,_,rfl,by omega,by omega,?_⟩
   let Jv:=λ(m:Nat) (ys:List V) (Z:St) (H3:Hp)=>∃(v:Option V)(xs:List Str),Z=[ri c,rs xu,ri z,v]/\H3=H2/\ys=gk xs/\xs.length=m/\∀x∈xs,x.length=1
   refine rH (by have:sizeLine=2 ^ 24:=rfl;omega) Jv
    ⟨none,[],rfl,rfl,rfl,rfl,λx hx=>nomatch hx⟩ (by rintro _ _ _ _ ⟨_,xs,_,_,e,e2,_⟩;rw[e,O4];omega) ?_ ?_
   ·rintro m ys Z H3 hm ⟨v,xs,rfl,rfl,rfl,hx,h1⟩
    refine⟨_,rfl,_,rfl,_,_,rfl,rfl,⟨by decide,by decide⟩,_,rfl,_,_,rfl,rfl,.inl ⟨by decide,by decide⟩,_,_,rfl,rfl,_,rfl,_,rfl,by rw[tI];decide,_,_,rfl,rfl,(by show(0:Int)<(xu.length:Int);rw[tI];decide),?_⟩
    have b:=mod_lt (c/45+7*(0+(m:Int))) (xu.length:Int) (by rw[tI];decide)
    obtain⟨cp,e,_⟩:=rJ (xs:=xu.cps.toList) b.1 (by rw[aa3];exact b.2)
    refine⟨_,_,cp,rfl,rfl,by rw[tI];decide,e,?_⟩
    refine⟨_,xs++[⟨#[cp]⟩],rfl,rfl,iZ _ _,by rw[YN,hx];rfl,λx Vy=>?_⟩
    rcases aak.mp Vy with Vy|Vy
    ·exact h1 x Vy
    ·rw[XS.mp Vy];rfl
   ·rintro ys Z H3 ⟨v,xs,rfl,rfl,rfl,hx,h1⟩ p hp
    refine⟨_,p,xs,rfl,rfl,gC.of b_,?_,?_⟩
    ·rw[Fi xs h1]
     have:(Str.ofString "").length=0:=by decide+kernel
     rw[this]
     omega
    ·exact q _ _ ((gh.refl H3).new hp)
theorem wc(l:List Str)(k:Nat):uZ (gk l) none (some (k:Int))=gk (l.take k):=by
 unfold uZ
 rw[HT.Ek,HT.Ho,Nat.sub_zero,List.drop_zero]
 unfold gk
 rw[O4,<-List.map_take]
 congr 1
 by_cases h:k<=l.length
 ·rw[Nat.min_eq_left h]
 ·rw[Nat.min_eq_right (by omega),List.take_of_length_le (XU _),List.take_of_length_le (by omega)]
theorem Fj(l:List Str)(k:Nat):uZ (gk l) (some (k:Int)) none=gk (l.drop k):=by
 unfold uZ
 rw[HT.Ek,HT.Ho,List.take_of_length_le (by rw[List.length_drop];exact XU _)]
 unfold gk
 rw[O4,<-List.map_drop]
 congr 1
 by_cases h:k<=l.length
 ·rw[Nat.min_eq_left h]
 ·rw[Nat.min_eq_right (by omega),List.drop_of_length_le (XU _),List.drop_of_length_le (by omega)]
theorem xv(l:List Str){z:Int}{k:Nat}(h:z=(k:Int)):uZ (gk l) (some z) none=gk (l.drop k):=by rw[h,Fj]
structure GQ(ts H_:List Str):Prop where
 ne:ts≠H_
 len:H_.length<=ts.length+3
 near:H_.length<=K01.lcs ts H_+3
theorem AA{x y s:List Str}(h1:s.Sublist x)(h2:s.Sublist y):s.length<=K01.lcs x y:=(K01.j5 x y).1 s h1 h2
theorem Ds{ts H_:List Str}(h:ts.length≠H_.length):ts≠H_:=λz=>h (abd List.length z)
theorem Jb(ts:List Str)(k:Nat)(x:Str):GQ ts (ts.take k++[x]++ts.drop k):=by
 have hl:(ts.take k++[x]++ts.drop k).length=ts.length+1:=by simp;omega
 have hs:ts.Sublist (ts.take k++[x]++ts.drop k):=by
  conv=>lhs;rw[<-abV k ts]
  rw[aa4]
  exact(aaU _).append (abj _ _)
 have:=AA (aaU ts) hs
 exact⟨Ds (by omega),by omega,by omega⟩
theorem Lj(ts:List Str)(k:Nat)(h:k<ts.length):GQ ts (ts.take k++ts.drop (k+1)):=by
 have hl:(ts.take k++ts.drop (k+1)).length=ts.length-1:=by simp;omega
 have hs:(ts.take k++ts.drop (k+1)).Sublist ts:=by
  conv=>rhs;rw[<-abV k ts]
  refine(aaU _).append ?_
  rw[aa6 h]
  exact abL _ _
 have:=AA hs (aaU _)
 exact⟨Ds (by omega),by omega,by omega⟩
theorem GR(ts:List Str)(k:Nat)(x:Str)(h:k<ts.length)(hx:ts[k]≠x):GQ ts (ts.take k++[x]++ts.drop (k+1)):=by
 have hl:(ts.take k++[x]++ts.drop (k+1)).length=ts.length:=by simp;omega
 have hs:(ts.take k++ts.drop (k+1)).Sublist ts:=by
  conv=>rhs;rw[<-abV k ts]
  refine(aaU _).append ?_
  rw[aa6 h]
  exact abL _ _
 have Fv:(ts.take k++ts.drop (k+1)).Sublist (ts.take k++[x]++ts.drop (k+1)):=by
  rw[aa4]
  exact(aaU _).append (abj _ _)
 have:=AA hs Fv
 have FQ:(ts.take k++ts.drop (k+1)).length=ts.length-1:=by simp;omega
 refine⟨λz=>hx ?_,by omega,by omega⟩
 have e:ts[k]?=(ts.take k++[x]++ts.drop (k+1))[k]?:=by rw[<-z]
 rw[aa4,abk (by rw[aaO];omega),aaO,show k-min k ts.length=0 by omega,UQ h] at e
 exact aaE e
theorem GS(ts:List Str)(k:Nat)(x y z:Str):GQ ts ([x]++(ts.take k++[y]++ts.drop k)++[z]):=by
 have hl:([x]++(ts.take k++[y]++ts.drop k)++[z]).length=ts.length+3:=by simp;omega
 have hs:ts.Sublist ([x]++(ts.take k++[y]++ts.drop k)++[z]):=by
  refine List.Sublist.trans ?_ (List.sublist_append_left _ _)
  refine List.Sublist.trans ?_ (abj _ _)
  conv=>lhs;rw[<-abV k ts]
  rw[aa4]
  exact(aaU _).append (abj _ _)
 have:=AA (aaU ts) hs
 exact⟨Ds (by omega),by omega,by omega⟩
theorem Jc(ts:List Str)(k:Nat)(x y z:Str)(h:k+1<ts.length):GQ ts (ts.take k++[x,y,z]++ts.drop (k+2)):=by
 have hl:(ts.take k++[x,y,z]++ts.drop (k+2)).length=ts.length+1:=by simp;omega
 have hs:(ts.take k++ts.drop (k+2)).Sublist ts:=by
  conv=>rhs;rw[<-abV k ts]
  refine(aaU _).append ?_
  exact K01.zQ (by omega)
 have Fv:(ts.take k++ts.drop (k+2)).Sublist (ts.take k++[x,y,z]++ts.drop (k+2)):=by
  rw[aa4]
  exact(aaU _).append (abj _ _)
 have:=AA hs Fv
 have FQ:(ts.take k++ts.drop (k+2)).length=ts.length-2:=by simp;omega
 exact⟨Ds (by omega),by omega,by omega⟩
def QY:Sp:=λvs H Q _=>∃(t:Addr)(ts:List Str)(c:Int),vs=[.ref t,.int c]/\H t=some (.lst (gk ts))/\ts.length<=900/\∀p H' H_,gh H H'->H' p=some (.lst (gk H_))->GQ ts H_->Q (.ref p) H'
theorem HI(T:Txt mg)(O:Ok K mg A):ig P w K mg base mK 2 A.yv A.yw ["texts","cell"] QY:=by
 have yL:=@NM P w K mg base A T O
 refine O.xo.f.rA j8 λju A outer s H vs Q E hr h=>?_
 obtain⟨t,ts,c,rfl,ht,hl,q⟩:=h
 have sz:sizeLine=16777216:=aaP
 have et:((gk ts).length:Int)=(ts.length:Int):=by simp
 refine⟨_,(de (k7 2 j8 (gp iz (gp jk (pv 1) f_) (gp iy (gz gq (by rfl) T.jx aaL (a_ (pv 0) e_)) f_)))
   (de (k7 3 j8 (og O.xn yL hr (a_ (gp jk (pv 1) f_) e_)))
   (de (k7 4 j8 (gp mO (gp mO (mD oA (pv 0) oy (oz (pv 2))) (iB (a_ (pv 3) e_))) (mD oA (pv 0) (oz (pv 2)) oy)))
   (de (k7 5 j8 (gp iz (pv 1) f_))
   (de (qk (ip ((pw_and (hX mB (pv 5) f_ (iA _)) (pw_and1 (hX Ee (gz gq (by rfl) T.jx aaL (a_ (pv 0) e_)) f_ (iA _)))).pt) (de (k7 6 j8 (gp iz (pv 2) (gz gq (by rfl) T.jx aaL (a_ (pv 0) e_))))
   (fR (hG (gp mO (mD oA (pv 0) oy (oz (pv 6))) (mD oA (pv 0) (oz (gp iy (pv 6) f_)) oy))))) hU))
   (de (qk (ip ((pw_and (hX mB (pv 5) f_ (iA _)) (pw_and (hX Ed (pv 2) (gz gq (by rfl) T.jx aaL (a_ (pv 0) e_)) (iA _)) (pw_and1 (hX Hk (kK (pv 0) (pv 2)) (pv 3) (iA _))))).pt) (fR (hG (gp mO (gp mO (mD oA (pv 0) oy (oz (pv 2))) (iB (a_ (pv 3) e_))) (mD oA (pv 0) (oz (gp iy (pv 2) f_)) oy)))) hU))
   (de (qk (ip (hX mB (pv 5) f_ (iA _)) (fR (hG (gp mO (gp mO (iB (a_ (pv 3) e_)) (pv 4)) (iB (a_ (og O.xn yL hr (a_ (gp jk (pv 1) f_) e_)) e_))))) hU))
   (de (qk (ip ((pw_and (hX mB (pv 5) f_ (iA _)) (pw_and1 (hX Ed (gp iy (pv 2) f_) (gz gq (by rfl) T.jx aaL (a_ (pv 0) e_)) (iA _)))).pt) (de (k7 7 j8 (iB (a_ (kK (pv 0) (gp iy (pv 2) f_)) (a_ (pv 3) (a_ (kK (pv 0) (pv 2)) e_)))))
   (fR (hG (gp mO (gp mO (mD oA (pv 0) oy (oz (pv 2))) (pv 7)) (mD oA (pv 0) (oz (gp iy (pv 2) f_)) oy))))) hU))
   (fR (hG (pv 4))))))))))),?_⟩
 refine sl9 ?_;intro _ _ _ _ _ _ _ _
 refine⟨_,rfl,_,_,rfl,rfl,⟨by decide,by decide⟩,_,rfl,t,_,rfl,.inl (gC.of ht),_,_,rfl,rfl,_,_,rfl,rfl,(by rw[et];omega),?_⟩
 rw[et]
 have b:=mod_lt (c/5) ((ts.length:Int)+1) (by omega)
 obtain⟨k,hk⟩:∃k:Nat,c/5%((ts.length:Int)+1)=(k:Int):=⟨_,(abG b.1).symm⟩
 dsimp only
 rw[hk]
 have JB:k<=ts.length:=by omega
 refine⟨_,rfl,_,_,rfl,rfl,⟨by decide,by decide⟩,c/30,rfl,λx H1 s1=>?_⟩
 have ht1:=s1 _ _ ht
 refine⟨_,rfl,_,rfl,_,rfl,t,_,rfl,gC.of ht1,λa ha=>?_⟩
 rw[wc]
 have s2:=s1.new (o:=.lst (gk (ts.take k))) ha
 have h2a:(upd H1 a (.lst (gk (ts.take k)))) a=some (.lst (gk (ts.take k))):=b_
 generalize upd H1 a (.lst (gk (ts.take k)))=H2 at s2 h2a
 refine⟨_,rfl,L2.jM,λb0 Fz=>?_⟩
 have s3:=s2.new (o:=.lst [V.str x]) Fz
 refine⟨a,b0,_,_,rfl,rfl,hZ Fz h2a,b_,by simp;omega,λd hd=>?_⟩
 have s4:=s3.new (o:=.lst (gk (ts.take k)++[V.str x])) hd
 have h4d:(upd (upd H2 b0 (.lst [V.str x])) d (.lst (gk (ts.take k)++[V.str x]))) d=some (.lst (gk (ts.take k++[x]))):=by rw[b_,iZ]
 generalize upd (upd H2 b0 (.lst [V.str x])) d (.lst (gk (ts.take k)++[V.str x]))=H4 at s4 h4d
 refine⟨_,rfl,_,rfl,_,rfl,t,_,rfl,gC.of (s4 _ _ ht),λe he=>?_⟩
 rw[Fj]
 have s5:=s4.new (o:=.lst (gk (ts.drop k))) he
 refine⟨d,e,_,_,rfl,rfl,hZ he h4d,b_,by simp;omega,λm hm=>?_⟩
 have s6:=s5.new (o:=.lst (gk (ts.take k++[x])++gk (ts.drop k))) hm
 have ZJ:(upd (upd H4 e (.lst (gk (ts.drop k)))) m (.lst (gk (ts.take k++[x])++gk (ts.drop k)))) m=some (.lst (gk (ts.take k++[x]++ts.drop k))):=by rw[b_,nO]
 generalize upd (upd H4 e (.lst (gk (ts.drop k)))) m (.lst (gk (ts.take k++[x])++gk (ts.drop k)))=H6 at s6 ZJ
 have G8:=s6 _ _ ht
 refine⟨_,rfl,_,_,rfl,rfl,(by show(0:Int)<5;decide),?_⟩
 refine⟨λZ H7=>Z=[rr t,ri c,ri k,rs x,rr m,ri (c%5),none,none]/\H7=H6,?_,?_⟩
 ·refine⟨_,rfl,rfl,_,rfl,?_⟩
  refine kZ (λ_=>?_) (λ_=>jg ⟨rfl,rfl⟩)
  refine⟨_,rfl,t,_,rfl,.inl (gC.of G8),_,_,rfl,rfl,_,rfl,?_⟩
  refine kZ (λh1=>?_) (λ_=>⟨rfl,rfl⟩)
  have h1:0<ts.length:=by have:=aaA h1;rw[et] at this;omega
  refine⟨_,rfl,_,rfl,t,_,rfl,.inl (gC.of G8),_,_,rfl,rfl,(by rw[et];omega),?_⟩
  have b2:=mod_lt (k:Int) (ts.length:Int) (by omega)
  obtain⟨o,ho⟩:∃o:Nat,(k:Int)%(ts.length:Int)=(o:Int):=⟨_,(abG b2.1).symm⟩
  rw[et]
  dsimp only
  rw[ho]
  refine⟨_,rfl,_,rfl,_,rfl,t,_,rfl,gC.of G8,λa ha=>?_⟩
  have s7:=s6.new (o:=.lst (uZ (gk ts) none (some (o:Int)))) ha
  refine⟨_,rfl,_,rfl,_,_,rfl,rfl,_,rfl,t,_,rfl,gC.of (s7 _ _ ht),λe he=>?_⟩
  have s8:=s7.new (o:=.lst (uZ (gk ts) (some ((o:Int)+1)) none)) he
  refine⟨a,e,gk (ts.take o),gk (ts.drop (o+1)),rfl,rfl,hZ he (by rw[b_,wc]),by rw[b_,xv ts (k:=o+1) (by omega)],by simp;omega,λp hp=>?_⟩
  refine q p _ _ (s8.new hp) ?_ (Lj ts o (by omega))
  rw[b_,nO]
 rintro Z H7 ⟨rfl,rfl⟩
 refine⟨λZ H8=>Z=[rr t,ri c,ri k,rs x,rr m,ri (c%5),none,none]/\H8=H7,?_,?_⟩
 ·refine⟨_,rfl,rfl,_,rfl,?_⟩
  refine kZ (λ_=>?_) (λ_=>jg ⟨rfl,rfl⟩)
  refine⟨_,rfl,_,rfl,t,_,rfl,.inl (gC.of G8),_,_,rfl,rfl,_,rfl,?_⟩
  refine kZ (λh1=>?_) (λ_=>jg ⟨rfl,rfl⟩)
  have h1:k<ts.length:=by have:=aaA h1;rw[et] at this;omega
  have hx:ts[k]?=some ts[k]:=UQ h1
  refine⟨_,rfl,_,rfl,t,_,_,_,rfl,rfl,gC.of G8,gs rfl (j4 hx),_,rfl,rfl,_,rfl,?_⟩
  refine kZ (λh2=>?_) (λ_=>⟨rfl,rfl⟩)
  have h2:ts[k]≠x:=λz=>by rw[z] at h2;simp at h2
  refine⟨_,rfl,_,rfl,_,rfl,t,_,rfl,gC.of G8,λa ha=>?_⟩
  have s7:=s6.new (o:=.lst (uZ (gk ts) none (some (k:Int)))) ha
  rw[wc] at s7 ⊢
  refine⟨_,rfl,L2.jM,λb0 Fz=>?_⟩
  have s8:=s7.new (o:=.lst [V.str x]) Fz
  refine⟨a,b0,_,_,rfl,rfl,hZ Fz b_,b_,by simp;omega,λd hd=>?_⟩
  have s9:=s8.new (o:=.lst (gk (ts.take k)++[V.str x])) hd
  refine⟨_,rfl,_,rfl,_,_,rfl,rfl,_,rfl,t,_,rfl,gC.of (s9 _ _ ht),λe he=>?_⟩
  have FR:=s9.new (o:=.lst (uZ (gk ts) (some ((k:Int)+1)) none)) he
  refine⟨d,e,_,gk (ts.drop (k+1)),rfl,rfl,hZ he b_,by rw[b_,xv ts (k:=k+1) (by omega)],by simp;omega,λp hp=>?_⟩
  refine q p _ _ (FR.new hp) ?_ (GR ts k x h1 h2)
  rw[b_,iZ,nO]
 rintro Z H8 ⟨rfl,rfl⟩
 refine⟨λZ H9=>Z=[rr t,ri c,ri k,rs x,rr m,ri (c%5),none,none]/\H9=H8,?_,?_⟩
 ·refine⟨_,rfl,rfl,_,rfl,?_⟩
  refine kZ (λ_=>?_) (λ_=>⟨rfl,rfl⟩)
  refine⟨_,rfl,L2.jM,λa ha=>?_⟩
  have s7:=s6.new (o:=.lst [V.str x]) ha
  refine⟨_,rfl,a,m,_,_,rfl,rfl,b_,hZ ha ZJ,by simp;omega,λb0 Fz=>?_⟩
  have s8:=s7.new (o:=.lst ([V.str x]++gk (ts.take k++[x]++ts.drop k))) Fz
  refine⟨_,rfl,_,_,rfl,rfl,⟨by decide,by decide⟩,c/60,rfl,λy H9 s9=>⟨L2.jM,λd hd=>?_⟩⟩
  have FR:=(s8.trans s9).new (o:=.lst [V.str y]) hd
  refine⟨b0,d,_,_,rfl,rfl,hZ hd (s9 _ _ b_),b_,by simp;omega,λp hp=>?_⟩
  refine q p _ _ (FR.new hp) ?_ (GS ts k x x y)
  rw[b_]
  simp[gk]
 rintro Z H9 ⟨rfl,rfl⟩
 refine⟨λZ y6=>Z=[rr t,ri c,ri k,rs x,rr m,ri (c%5),none,none]/\y6=H9,?_,?_⟩
 ·refine⟨_,rfl,rfl,_,rfl,?_⟩
  refine kZ (λ_=>?_) (λ_=>jg ⟨rfl,rfl⟩)
  refine⟨_,rfl,_,_,rfl,rfl,_,rfl,t,_,rfl,.inl (gC.of G8),_,_,rfl,rfl,_,rfl,?_⟩
  refine kZ (λh1=>?_) (λ_=>⟨rfl,rfl⟩)
  have h1:k+1<ts.length:=by have:=aaA h1;rw[et] at this;omega
  have hx:ts[k]?=some ts[k]:=UQ (by omega)
  have hy:ts[k+1]?=some ts[k+1]:=UQ h1
  refine⟨_,rfl,_,rfl,_,_,rfl,rfl,t,_,_,_,rfl,rfl,gC.of G8,gs (j:=k+1) (by omega) (j4 hy),_,rfl,_,rfl,_,rfl,t,_,_,_,rfl,rfl,gC.of G8,gs rfl (j4 hx),L2.jM,λu hu=>?_⟩
  have s7:=s6.new (o:=.lst [V.str ts[k+1],V.str x,V.str ts[k]]) hu
  have h7u:(upd H9 u (.lst [V.str ts[k+1],V.str x,V.str ts[k]])) u=some (.lst (gk [ts[k+1],x,ts[k]])):=b_
  generalize upd H9 u (.lst [V.str ts[k+1],V.str x,V.str ts[k]])=Ia at s7 h7u
  refine⟨_,rfl,_,rfl,_,rfl,t,_,rfl,gC.of (s7 _ _ ht),λa ha=>?_⟩
  rw[wc]
  have s8:=s7.new (o:=.lst (gk (ts.take k))) ha
  refine⟨_,rfl,a,u,_,_,rfl,rfl,b_,hZ ha h7u,by simp;omega,λd hd=>?_⟩
  have s9:=s8.new (o:=.lst (gk (ts.take k)++gk [ts[k+1],x,ts[k]])) hd
  refine⟨_,rfl,_,rfl,_,_,rfl,rfl,_,rfl,t,_,rfl,gC.of (s9 _ _ ht),λe he=>?_⟩
  have FR:=s9.new (o:=.lst (uZ (gk ts) (some ((k:Int)+2)) none)) he
  refine⟨d,e,_,gk (ts.drop (k+2)),rfl,rfl,hZ he b_,by rw[b_,xv ts (k:=k+2) (by omega)],by simp;omega,λp hp=>?_⟩
  refine q p _ _ (FR.new hp) ?_ (Jc ts k ts[k+1] x ts[k] h1)
  rw[b_,nO,nO]
 rintro Z y6 ⟨rfl,rfl⟩
 exact⟨_,rfl,q m _ _ s6 ZJ (Jb ts k x)⟩
structure Sz(k:Nat)(D:Dk):Prop where
 many:D.made.length<=k
 ix:(D.made.flatMap (·.ix)).length<=3*k
 jt:(D.made.flatMap (·.jt)).length<=3*(k*k)
theorem HJ(k:Nat):(k+1)*(k+1)=k*k+2*k+1:=by simp only [Nat.mul_add,Nat.add_mul];omega
theorem Sz.up{k:Nat}{D:Dk}(z:Sz k D):Sz (k+1) D:=⟨Nat.le_succ_of_le z.many,by have:=z.ix;omega,by have:=z.jt;have:=HJ k;omega⟩
theorem Sz.keep{k:Nat}{D:Dk}(z:Sz k D)(s:Str){p:Pt}(hp:p.ix.length<=3)(hc:p.jt.length<=3*k+3):Sz (k+1) (D.keep s p):=by
 refine⟨?_,?_,?_⟩
 ·show(D.made++[p]).length<=_
  rw[YN];have:=z.many;show _+1<=_;omega
 ·show((D.made++[p]).flatMap (·.ix)).length<=_
  rw[abc,YN,aaV,abZ,aaZ];have:=z.ix;omega
 ·show((D.made++[p]).flatMap (·.jt)).length<=_
  rw[abc,YN,aaV,abZ,aaZ];have:=z.jt;have:=HJ k;omega
theorem Sz.small{k:Nat}{D:Dk}(z:Sz k D)(h:k<=36):Small D.made:=by
 have h2:k*k<=36*36:=Nat.mul_le_mul h h
 exact⟨aam z.many (by omega),aam z.ix (by omega),aam z.jt (by omega)⟩
theorem Sz.row{k:Nat}{D:Dk}(z:Sz k D)(I:Inv D)(s f:Str):(D.row s f).length<=3*k:=aam (I.vp s f) z.ix
theorem qQ(D:Dk)(s:Str)(p:Pt):(D.keep s p).names=D.names++[p.nm]:=by
 show(D.made++[p]).map (·.nm)=_
 rw[aaG];rfl
theorem Ce{x f:Str}{row:List Ln}{texts:List Str}(e:GQ (row.map (·.tx)) texts):(jW x f row texts).ix.length<=3:=by
 have rise:=pH (row.map (·.tx)) texts
 rw[O4] at rise
 have h:=Hw rise x
 rw[K01.xW] at h
 have:=e.near
 show(kj x texts _).length<=3
 omega
theorem pick{xs:List Str}{i:Int}(h0:0<=i)(h:i<(xs.length:Int)):∃x,Gf (gk xs) i=some (V.str x)/\x∈xs:=by
 obtain⟨v,e,ev⟩:=rJ (xs:=gk xs) h0 (by simpa using h)
 obtain⟨x,hx,rfl⟩:=lO ev
 exact⟨x,e,XY hx⟩
def QZ(A:Ad):Sp:=λvs H Q _=>∃(d ss fs:Addr)(D:Dk)(W:Addr->Prop)(k:Nat)(stores files:List Str)(c:Int)(x:Str)(b:Bool),vs=[.ref d,.ref ss,.ref fs,.int c,.str x,.bl b]/\ib A H d D W/\Inv D/\Sz k D/\k<36/\
 H ss=some (.lst (gk stores))/\stores≠[]/\stores.length<=1000/\(∀s∈stores,s∈D.stores/\kW s)/\H fs=some (.lst (gk files))/\files≠[]/\files.length<=1000/\(∀f∈files,Good f)/\Good x/\x∉D.names/\(∀z∈D.names,kW z)/\
 ∀H' D',ib A H' d D' W->oW W H H'->Inv D'->Sz (k+1) D'->D'.stores=D.stores->(D'.names=D.names\/D'.names=D.names++[x])->Q .jc H'
theorem NN(T:Txt mg)(O:Ok K mg A):ig P w K mg base mK 7 A.yx A.yy ["desk","stores","files","cell","name","backs"] (QZ A):=by
 have oe:=(@GL P w K mg base A T O).FP
 have jA:=(@GK P w K mg base A T O).FP
 have FC:=(@NJ P w K mg base A T O).FP
 have FD:=(@NG P w K mg base A T O).FP
 have FE:=(@NF P w K mg base A T O).FP
 have kl:=(@sR P w K mg base A T O).FP
 have pe:=(@Cd P w K mg base A T O).FP
 have uH:=(@Lg P w K mg base A T O).FP
 have sX:=@HI P w K mg base A T O
 refine O.B4.f.rA jm λju A0 outer s H vs Q E hr h=>?_
 obtain⟨d,ss,fs,D,W,k,stores,files,c,x,bk,rfl,X,I,z,hk,RK,hs0,Ws,uG,wy,WZ,Jw,hfg,gx,hx,OU,q⟩:=h
 obtain⟨Y,y⟩:=id X
 have sz:sizeLine=16777216:=aaP
 have sm:=z.small (by omega)
 have jM:xp D.made.length:=sm.many
 have y0:D.made.length<=4000:=jM
 have es:((gk stores).length:Int)=(stores.length:Int):=by simp
 have ef:((gk files).length:Int)=(files.length:Int):=by simp
 have YH:0<stores.length:=List.length_pos_iff.mpr hs0
 have hf1:0<files.length:=List.length_pos_iff.mpr WZ
 refine⟨_,(de (k7 6 jm (kK (pv 1) (gp iz (pv 3) (gz gq (by rfl) T.jx aaL (a_ (pv 1) e_)))))
   (de (k7 7 jm (kK (pv 2) (gp iz (gp jk (pv 3) f_) (gz gq (by rfl) T.jx aaL (a_ (pv 2) e_)))))
   (de (k7 8 jm (gp iz (gp jk (pv 3) f_) f_))
   (de (k7 9 jm (gp jk (pv 3) f_))
   (de (BQ (j:=10) x9 (gb oI).names [13] jm.nd rfl rfl rfl (ie (xV (pv 0) O.gE O.vS oe hr (a_ (pv 6) (a_ (pv 7) e_)))) rfl (by decide+kernel) (λ_ _ _ _=>(iu (i:=13) jm.nd rfl (Or.inl rfl))) (λ_ _ _ _=>lM) (λ_ _ _ _=>zb (jq kT (pv 13) f_ (λ_ _=>rfl))))
   (fR (ip (Ky ((pw_and (hX mB (pv 8) f_ (iA _)) (pw_and (lx (pv 5)) (pw_and1 (hX Ee (gz gq (by rfl) T.jx aaL (a_ (xV (pv 0) O.gE O.k8 jA hr (a_ (pv 6) e_)) e_)) f_ (iA _))))).pt)) (fR (hV (xV (pv 0) O.gE O.B0 FC hr (a_ (pv 6) (a_ (pv 4) (a_ (kK (xV (pv 0) O.gE O.k8 jA hr (a_ (pv 6) e_)) (gp iz (pv 9) (gz gq (by rfl) T.jx aaL (a_ (xV (pv 0) O.gE O.k8 jA hr (a_ (pv 6) e_)) e_)))) e_)))))) (fR (ip (Ky ((pw_and (hX mB (pv 8) f_ (iA _)) (pw_and (hX mB (gp iz (pv 9) f_) f_ (iA _)) (pw_and1 (hX Ee (gz gq (by rfl) T.jx aaL (a_ (xV (pv 0) O.gE O.k8 jA hr (a_ (pv 6) e_)) e_)) f_ (iA _))))).pt)) (fR (hV (xV (pv 0) O.gE O.B2 FD hr (a_ (pv 6) (a_ (kK (xV (pv 0) O.gE O.k8 jA hr (a_ (pv 6) e_)) (xO rF f_)) e_))))) (fR (ip (hX Ee (pv 8) f_ (iA _)) (de (k7 11 jm (kK (pv 1) (gp iz (pv 9) (gz gq (by rfl) T.jx aaL (a_ (pv 1) e_)))))
   (de (k7 12 jm (xV (pv 0) O.gE O.k8 jA hr (a_ (pv 11) e_)))
   (fR (ip (hX Ee (gz gq (by rfl) T.jx aaL (a_ (pv 12) e_)) f_ (iA _)) (fR (hV (xV (pv 0) O.gE O.B1 FE hr (a_ (pv 6) (a_ (pv 11) (a_ (kK (pv 12) (gp iz (gp jk (pv 9) f_) (gz gq (by rfl) T.jx aaL (a_ (pv 12) e_)))) e_)))))) hU)))) (fR (ip (hX mB (gz gq (by rfl) T.jx aaL (a_ (xV (pv 0) O.gE O.mz kl hr (a_ (pv 6) (a_ (pv 7) e_))) e_)) f_ (iA _)) (fR (hV (xV (pv 0) O.gE O.sD pe hr (a_ (pv 6) (a_ (pv 4) (a_ (pv 7) (a_ (og O.xo sX hr (a_ (pv 10) (a_ (pv 9) e_))) e_))))))) (fR (hV (xV (pv 0) O.gE O.Ao uH hr (a_ (pv 6) (a_ (pv 4) (a_ (pv 7) (a_ (iB (a_ (gp iz (pv 9) (gz gq (by rfl) T.jx aaL (a_ (pv 10) e_))) e_)) e_)))))))))))))))))))),?_⟩
 refine R7 ?_;intro _ _ _ _ _
 have b1:=mod_lt c (stores.length:Int) (by omega)
 obtain⟨st,ZK,N8⟩:=pick (xs:=stores) b1.1 b1.2
 have b2:=mod_lt (c/7) (files.length:Int) (by omega)
 obtain⟨f,ZL,hf2⟩:=pick (xs:=files) b2.1 b2.2
 obtain⟨uP,G9⟩:=uG st N8
 have gf:=hfg f hf2
 refine⟨_,rfl,_,rfl,_,rfl,ss,_,rfl,.inl (gC.of RK),_,_,rfl,rfl,(by rw[es];omega),ss,_,_,_,rfl,rfl,gC.of RK,(by rw[es];exact ZK),?_⟩
 refine⟨_,rfl,_,rfl,_,_,rfl,rfl,⟨by decide,by decide⟩,_,rfl,fs,_,rfl,.inl (gC.of wy),_,_,rfl,rfl,(by rw[ef];omega),fs,_,_,_,rfl,rfl,gC.of wy,(by rw[ef];exact ZL),?_⟩
 refine⟨_,rfl,_,_,rfl,rfl,⟨by decide,by decide⟩,_,_,rfl,rfl,(by show(0:Int)<6;decide),?_⟩
 refine⟨_,rfl,_,_,rfl,rfl,⟨by decide,by decide⟩,?_⟩
 refine⟨_,rfl,d,Y.dx,_,rfl,y.hd,GJ,_,rfl,_,rfl,d,D,W,st,f,rfl,X,G9,sm,I,λh=>absurd uP h,λ_ r H1 s1 tJ ⟨vs,xF,zo⟩=>?_⟩
 have Dx:=z.row I st f
 have Vz:=aau zo
 let Jv:=λ(i:Nat) (ys:List V) (Z:St) (H4:Hp)=>∃(G_:Option V),Z=[rr d,rr ss,rr fs,ri c,rs x,some (.bl bk),rs st,rs f,ri (c/11%6),ri (c/66),none,none,none,G_]/\H4=H1/\ys=gk (((D.row st f).take i).map (·.tx))
 refine⟨r,rfl,⟨_,gC.of xF⟩,jE (K:=K) (a:=r) (xs:=vs) (by omega) Jv
  ⟨none,rfl,rfl,rfl⟩ (by rintro _ _ _ _ _ ⟨_,_,e,e2⟩;rw[e,e2];exact⟨gC.of xF,by rw[O4,O4,aaO];omega⟩) ?_ ?_⟩
 ·rintro i v ys Z H4 hx ⟨G_,rfl,rfl,rfl⟩
  obtain⟨ln,tP,t,rfl,ht⟩:=ic zo hx
  refine⟨_,rfl,t,_,_,_,rfl,rfl,ox.of ht,gs (j:=2) rfl rfl,_,rfl,rfl,?_⟩
  rw[take_snoc tP,aaG,iZ]
  rfl
 rintro ys Z H4 ⟨G_,rfl,rfl,rfl⟩ VA U7
 rw[Vz,aaD]
 have s2:=s1.new (o:=.lst (gk ((D.row st f).map (·.tx)))) U7
 have VB:(upd H4 VA (.lst (gk ((D.row st f).map (·.tx))))) VA=some (.lst (gk ((D.row st f).map (·.tx)))):=b_
 generalize upd H4 VA (.lst (gk ((D.row st f).map (·.tx))))=H2 at s2 VB
 have X2:=X.same s2
 have L5:(((D.row st f).map (·.tx)).length:Int)=((D.row st f).length:Int):=by rw[O4]
 have el:∀l:List Str,((gk l).length:Int)=(l.length:Int):=λl=>by simp
 have hasB:∀u,(D.has u).length<=D.made.length:=λu=>by
  rw[Dk.qx,O4];exact aaX _ _
 have RL:∀u,∀v∈D.has u,v∈D.held u/\v∈D.names:=λu v hv=>by
  obtain⟨h1,h2⟩:=aao.mp hv
  exact⟨aaA h2,h1⟩
 refine⟨λb H3=>gh H2 H3/\(b=true->D.has st≠[]),?_,?_⟩
 ·refine⟨_,rfl,rfl,_,rfl,?_⟩
  refine kZ (λ_=>?_) (λ_=>⟨gh.refl _,λz=>by cases z⟩)
  refine⟨_,rfl,_,rfl,?_⟩
  refine kZ (λ_=>?_) (λ_=>⟨gh.refl _,λz=>by cases z⟩)
  refine⟨_,rfl,d,Y.dx,_,rfl,s2 _ _ y.hd,qN,_,rfl,d,D,W,st,rfl,X2,G9,jM,λh=>absurd uP h,λ_ p pq=>?_⟩
  refine⟨p,_,rfl,.inl (gC.of b_),_,_,rfl,rfl,_,rfl,(gh.refl H2).new pq,λh e=>?_⟩
  rw[e] at h
  exact absurd (aaA h) (by decide)
 rintro b H3 ⟨s23,hb⟩
 have s3:=s2.trans s23
 have X3:=X.same s3
 cases b with
 | true=>
  have oa:=hb rfl
  have hpos:0<(D.has st).length:=List.length_pos_iff.mpr oa
  refine lK ?_
  refine⟨_,rfl,d,Y.dx,_,rfl,s3 _ _ y.hd,Nw,_,rfl,_,rfl,_,rfl,d,Y.dx,_,rfl,s3 _ _ y.hd,qN,_,rfl,d,D,W,st,rfl,X3,G9,jM,λh=>absurd uP h,λ_ p pq=>?_⟩
  have s4:=s3.new (o:=.lst (gk (D.has st))) pq
  refine⟨_,rfl,_,rfl,d,Y.dx,_,rfl,s4 _ _ y.hd,qN,_,rfl,d,D,W,st,rfl,X.same s4,G9,jM,λh=>absurd uP h,λ_ p2 A7=>?_⟩
  have s5:=s4.new (o:=.lst (gk (D.has st))) A7
  have b3:=mod_lt (c/66) ((D.has st).length:Int) (by omega)
  obtain⟨o,eo,ho⟩:=pick (xs:=D.has st) b3.1 b3.2
  obtain⟨RM,SJ⟩:=RL st o ho
  refine⟨p2,_,rfl,.inl (gC.of b_),_,_,rfl,rfl,(by rw[el];omega),p,_,_,_,rfl,rfl,gC.of (hZ A7 b_),(by rw[el];exact eo),?_⟩
  refine⟨d,D,W,st,x,o,rfl,X.same s5,I,jM,G9,gx.uE,OU o SJ,λh=>absurd uP h,λ_ h=>absurd gx h,λ_ _ h=>absurd h hx,λ_ _ _ h=>absurd RM h,λ_ _ _ _ H' X' s'=>?_⟩
  exact q H' _ X' (λb o e n=>s' b o (s5 _ _ e) n) (I.back uP hx RM) (z.keep st (aaY _) (aaY _)) rfl (.inr (qQ D st _))
 | false=>
 refine jg ?_
 refine⟨λb H4=>gh H3 H4/\(b=true->D.has st≠[]),?_,?_⟩
 ·refine⟨_,rfl,rfl,_,rfl,?_⟩
  refine kZ (λ_=>?_) (λ_=>⟨gh.refl _,λz=>by cases z⟩)
  refine⟨_,rfl,_,_,rfl,rfl,(by show(0:Int)<4;decide),rfl,_,rfl,?_⟩
  refine kZ (λ_=>?_) (λ_=>⟨gh.refl _,λz=>by cases z⟩)
  refine⟨_,rfl,d,Y.dx,_,rfl,s3 _ _ y.hd,qN,_,rfl,d,D,W,st,rfl,X3,G9,jM,λh=>absurd uP h,λ_ p pq=>?_⟩
  refine⟨p,_,rfl,.inl (gC.of b_),_,_,rfl,rfl,_,rfl,(gh.refl H3).new pq,λh e=>?_⟩
  rw[e] at h
  exact absurd (aaA h) (by decide)
 rintro b H4 ⟨RJ,hb⟩
 have s4:=s3.trans RJ
 have X4:=X.same s4
 cases b with
 | true=>
  have oa:=hb rfl
  obtain⟨zs,la,Oe⟩:∃zs la,D.has st=zs++[la]:=⟨_,_,(List.dropLast_concat_getLast oa).symm⟩
  have WJ:=RL st la (by rw[Oe];simp)
  refine lK ?_
  refine⟨_,rfl,d,Y.dx,_,rfl,s4 _ _ y.hd,Ny,_,rfl,_,rfl,d,Y.dx,_,rfl,s4 _ _ y.hd,qN,_,rfl,d,D,W,st,rfl,X4,G9,jM,λh=>absurd uP h,λ_ p pq=>?_⟩
  have s5:=s4.new (o:=.lst (gk (D.has st))) pq
  have Sk:Gf (gk (D.has st)) (-1)=some (V.str la):=by rw[Oe,<-iZ];exact En _ _
  refine⟨_,rfl,p,_,_,_,rfl,rfl,gC.of b_,Sk,?_⟩
  refine⟨d,D,W,st,la,rfl,X.same s5,I,jM,G9,OU la WJ.2,OU,λh=>absurd uP h,λ_ h=>absurd WJ.1 h,λ_ _ h=>absurd (I.BX uP Oe) h,λ_ _ _ H' X' s'=>?_⟩
  exact q H' _ X' (λb o e n=>s' b o (s5 _ _ e) n) (I.drop uP (I.BX uP Oe)) ⟨z.up.many,z.up.ix,z.up.jt⟩ rfl (.inl rfl)
 | false=>
 refine jg ?_
 refine⟨_,rfl,_,_,rfl,rfl,_,rfl,?_⟩
 refine kZ (λ_=>?_) (λ_=>?_)
 ·have b3:=mod_lt (c/66) (stores.length:Int) (by omega)
  obtain⟨so,Js,L6⟩:=pick (xs:=stores) b3.1 b3.2
  obtain⟨L7,VC⟩:=uG so L6
  refine⟨_,rfl,_,rfl,_,rfl,ss,_,rfl,.inl (gC.of (s4 _ _ RK)),_,_,rfl,rfl,(by rw[es];omega),ss,_,_,_,rfl,rfl,gC.of (s4 _ _ RK),(by rw[es];exact Js),?_⟩
  refine⟨_,rfl,d,Y.dx,_,rfl,s4 _ _ y.hd,qN,_,rfl,d,D,W,so,rfl,X4,VC,jM,λh=>absurd L7 h,λ_ p pq=>?_⟩
  have s5:=s4.new (o:=.lst (gk (D.has so))) pq
  refine⟨_,rfl,p,_,rfl,.inl (gC.of b_),_,_,rfl,rfl,_,rfl,?_⟩
  refine kZ (λh=>?_) (λ_=>?_)
  ·have h:0<(D.has so).length:=by have:=aaA h;rw[el] at this;omega
   have b4:=mod_lt (c/66/5) ((D.has so).length:Int) (by omega)
   obtain⟨o,eo,ho⟩:=pick (xs:=D.has so) b4.1 b4.2
   obtain⟨RM,SJ⟩:=RL so o ho
   refine⟨_,rfl,d,Y.dx,_,rfl,s5 _ _ y.hd,Nx,_,rfl,_,rfl,_,rfl,_,rfl,_,_,rfl,rfl,⟨by decide,by decide⟩,_,rfl,p,_,rfl,.inl (gC.of b_),_,_,rfl,rfl,(by rw[el];omega),p,_,_,_,rfl,rfl,gC.of b_,(by rw[el];exact eo),?_⟩
   refine⟨d,D,W,st,so,o,rfl,X.same s5,I,jM,G9,VC,OU o SJ,λh=>absurd uP h,λ_ h=>absurd L7 h,λ_ _ h=>absurd RM h,λ_ _ _ cm H6 H' s6 Sn _ X' s'=>?_⟩
   exact q H' _ X' (λb o e n=>s' b o (by rw[d_ (gg (s6 _ _ (s5 _ _ e)) Sn)];exact s6 _ _ (s5 _ _ e)) n) (I.take uP SJ) ⟨z.up.many,z.up.ix,z.up.jt⟩ rfl (.inl rfl)
  ·exact q _ D (X.same s5) (oW.of s5) I z.up rfl (.inl rfl)
 refine⟨_,rfl,d,Y.dx,_,rfl,s4 _ _ y.hd,sP,_,rfl,_,rfl,d,D,W,st,f,rfl,X4,G9,sm,I,λh=>absurd uP h,λ_ p H5 qs Od pq O5 A7=>?_⟩
 have s5:=s4.trans Od
 have HZ:=aau A7
 have VD:=Od _ _ (RJ _ _ (s23 _ _ VB))
 refine⟨p,_,rfl,.inl (gC.of O5),rfl,_,rfl,?_⟩
 refine kZ (λh=>?_) (λh=>?_)
 ·have hq:D.jR st f=[]:=by
   have:=V.int.inj (aaA h)
   rw[<-HZ] at this
   exact aaQ.mp (by omega)
  refine⟨_,rfl,d,Y.dx,_,rfl,s5 _ _ y.hd,Ca,_,rfl,_,rfl,_,rfl,_,rfl,_,rfl,VA,(D.row st f).map (·.tx),c/66,rfl,VD,by rw[O4];omega,λt H6 ts RD G8 ed=>?_⟩
  have s6:=s5.trans RD
  have Rp:=ed.len
  rw[O4] at Rp
  refine⟨d,t,D,W,st,x,f,ts,rfl,X.same s6,I,sm,aam z.ix (by omega),G9,gx.uE,gf.uE,G8,by omega,λh=>absurd uP h,λ_ h=>absurd ⟨gx,gf⟩ h,λ_ _ _ h=>absurd h hx,λ_ _ _ _ h=>absurd hq h,λ_ _ _ _ _ h=>absurd h ed.ne,λ_ _ _ _ _ _ H' X' s'=>?_⟩
  refine q H' _ X' (λb o e n=>s' b o (s6 _ _ e) n) (I.record uP hx hq ts) (z.keep st (Ce ed) (aam qP.2 (by omega))) rfl (.inr (qQ D st _))
 ·have hq:D.jR st f≠[]:=λe=>h (by rw[<-HZ,e];rfl)
  have hrpos:0<(D.row st f).length:=by
   rcases Nat.eq_zero_or_pos (D.row st f).length with e|e
   ·exfalso
    apply hq
    show jb _ (D.row st f)=[]
    rw[aaQ.mp e]
    rfl
   ·exact e
  have b3:=mod_lt (c/66) ((D.row st f).length:Int) (by omega)
  refine⟨_,rfl,d,Y.dx,_,rfl,s5 _ _ y.hd,Lb,_,rfl,_,rfl,_,rfl,_,rfl,_,rfl,VA,_,rfl,.inl (gC.of VD),_,_,rfl,rfl,(by rw[el,L5];omega),L2.jM,λt ht=>?_⟩
  have s6:=s5.new (o:=.lst [V.int (c/66%((gk ((D.row st f).map (·.tx))).length:Int))]) ht
  refine⟨d,t,D,W,st,x,f,[c/66%((gk ((D.row st f).map (·.tx))).length:Int)],rfl,X.same s6,I,sm,G9,gx.uE,gf.uE,b_,by show 1<=1000;decide,λp hp=>?_,λh=>absurd uP h,λ_ h=>absurd ⟨gx,gf⟩ h,λ_ _ _ h=>absurd h hx,λ_ _ _ _ h=>absurd ?_ h,(λ_ _ _ _ h=>by cases h),λ_ _ _ _ ok _ H' X' s'=>?_⟩
  ·rw[XS.mp hp,el,L5]
   refine aby (m:=108) ?_ (by decide)
   exact aam (Nat.log2_le_self _) (by omega)
  ·rw[el,L5]
   exact⟨⟨b3.1,b3.2⟩,trivial⟩
  ·refine q H' _ X' (λb o e n=>s' b o (s6 _ _ e) n) (I.cut uP hx λm hm=>?_) (z.keep st (aaY _) (aam (acg _ _) (by show 1<=_;omega))) rfl (.inr (qQ D st _))
   obtain⟨pl,_,nJ⟩:=abw.mp hm
   obtain⟨l',yK,rfl⟩:=Option.map_eq_some_iff.mp nJ
   exact aae (XY yK)
theorem nH{K:Qqy}{H H':Hp}{a:Addr}{xs:List V}(h:gC K H a xs)(s:gh H H'):gC K H' a xs:=by
 rcases h with(h|⟨u,h⟩)|h
 ·exact .inl (.inl (s _ _ h))
 ·exact .inl (.inr ⟨u,s _ _ h⟩)
 ·exact .inr h
noncomputable abbrev yY(ns:List Int)(i:Int):Int:=cellAt ns i%20736
noncomputable def rC(ns:List Int):List Str:=[nameOf (yY ns 0) 0,nameOf (yY ns 0) 1,nameOf (yY ns 0) 2]
noncomputable def qg(ns:List Int):List Str:=[nameOf (yY ns 1) 0,nameOf (yY ns 1) 1]
theorem Cf(ns:List Int):(rC ns).Nodup:=by
 have h:∀i j:Int,0<=i->i<36->0<=j->j<36->i≠j->nameOf (yY ns 0) i≠nameOf (yY ns 0) j:=λi j a b c d e z=>e (wb a b c d z)
 unfold rC
 simp only [aa8,aag,ack,or_false,not_or,abt,and_true]
 exact⟨⟨h 0 1 (by decide) (by decide) (by decide) (by decide) (by decide),h 0 2 (by decide) (by decide) (by decide) (by decide) (by decide)⟩,h 1 2 (by decide) (by decide) (by decide) (by decide) (by decide),by simp⟩
theorem sT{ns:List Int}:∀s∈rC ns,Good s:=by
 intro s hs
 unfold rC at hs
 simp only [aag,ack,or_false] at hs
 rcases hs with rfl|rfl|rfl<;>exact qb _ _
theorem Fl{ns:List Int}:∀s∈qg ns,Good s:=by
 intro s hs
 unfold qg at hs
 simp only [aag,ack,or_false] at hs
 rcases hs with rfl|rfl<;>exact qb _ _
structure Built(A:Ad)(ns:List Int)(n:Nat)(H H':Hp)(b d ss fs:Addr)(D:Dk)(W:Addr->Prop):Prop where
 same:gh H H'
 fresh:H b=none
 at_:H' b=some (.lst [.ref d,.ref ss,.ref fs])
 st:H' ss=some (.lst (gk (rC ns)))
 fl:H' fs=some (.lst (gk (qg ns)))
 Yh:ib A H' d D W
 own:∀x,W x->H x=none
 inv:Inv D
 sz:Sz n D
 stores:D.stores=rC ns
 names:∀x∈D.names,∃j:Nat,j<n/\x=nameOf (yY ns 3) j
def Q0(K:PySem.W.Frag)(A:Ad):Sp:=λvs H Q _=>∃(a:Addr)(ns:List Int)(first:Int)(n:Nat)(bk:Bool),vs=[.ref a,.int first,.int n,.bl bk]/\gC K H a (ns.map V.int)/\ns.length<=1000/\0<=first/\first<=1000/\n<=35/\∀b d ss fs D W H',Built A ns n H H' b d ss fs D W->Q (.ref b) H'
theorem NO(T:Txt mg)(O:Ok K mg A):ig P w K mg base mK 8 A.yz A.yA ["script","first","most","backs"] (Q0 K A):=by
 have y8:=@Dh P w K mg base A T O
 have DC:=(@Ld P w K mg base A T O).FP
 have mJ:=@HH P w K mg base A T O
 have iM:=@HG P w K mg base A T O
 have FF:=@NL P w K mg base A T O
 have FG:=@NN P w K mg base A T O
 refine O.B5.f.rA i8 λju A0 outer s H vs Q E hr h=>?_
 obtain⟨a,ns,first,n,bk,rfl,ha,RA,WZ,hf1,hn,q⟩:=h
 have sz:sizeLine=16777216:=aaP
 refine⟨_,(de (k7 4 i8 (JP O.Qy y8 (hr.mono (by decide)) rfl O.Qz O.ue.b .nil pE))
   (de (BQ (j:=5) rY (gb mG).names [8] i8.nd rfl rfl rfl (jT rfl T.lr (a_ f_ e_)) rfl (by decide+kernel) (λ_ _ _ _=>(iu (i:=8) i8.nd rfl (Or.inl rfl))) (λ_ _ _ _=>lM) (λ_ _ _ _=>zb (og O.p6 mJ hr (a_ (gp iz (og O.i9 iM hr (a_ (pv 0) (a_ f_ e_))) f_) (a_ (pv 8) e_)))))
   (de (BQ (j:=6) rY (gb mG).names [8] i8.nd rfl rfl rfl (jT rfl T.lr (a_ f_ e_)) rfl (by decide+kernel) (λ_ _ _ _=>(iu (i:=8) i8.nd rfl (Or.inl rfl))) (λ_ _ _ _=>lM) (λ_ _ _ _=>zb (og O.p6 mJ hr (a_ (gp iz (og O.i9 iM hr (a_ (pv 0) (a_ f_ e_))) f_) (a_ (pv 8) e_)))))
   (de (iD aaM rfl (ie (pv 5)) (tL 7 i8) (fR (hV (xV (pv 4) O.gE O.An DC hr (a_ (pv 7) e_)))))
   (de (iD aaM rfl (jT rfl T.lr (a_ (pv 2) e_)) (tL 8 i8) (de (k7 9 i8 (og O.i9 iM hr (a_ (pv 0) (a_ (gp iy (pv 1) (pv 8)) e_))))
   (de (qk (ip (hX Th (gp iy (pv 1) (pv 8)) (gz gq (by rfl) T.jx aaL (a_ (pv 0) e_)) (iA _)) (fR (k7 9 i8 (og O.B3 FF hr (a_ (og O.i9 iM hr (a_ (pv 0) (a_ f_ e_))) (a_ (pv 8) (a_ f_ e_)))))) hU))
   (fR (hV (og O.B4 FG hr (a_ (pv 4) (a_ (pv 5) (a_ (pv 6) (a_ (pv 9) (a_ (og O.p6 mJ hr (a_ (gp iz (og O.i9 iM hr (a_ (pv 0) (a_ f_ e_))) f_) (a_ (pv 8) e_))) (a_ (pv 3) e_))))))))))))
   (fR (hG (iB (a_ (pv 4) (a_ (pv 5) (a_ (pv 6) e_))))))))))),?_⟩
 refine R7 ?_;intro _ _ _ _ _
 intro d px nd Zx nxd
 refine⟨d,px,rfl,b_,λH1 W X1 hW k1=>⟨rfl,?_⟩⟩
 have s0:gh H (upd (upd H px (.own d)) d (.ins A.gn px [])):=λb o e=>by rw[d_ (gg e nd),d_ (gg e Zx)];exact e
 have s1:gh H H1:=λb o e=>k1 b o (s0 b o e) (gg e nd)
 have hW0:∀b,W b->H b=none:=λb hb=>s0.free (hW b hb)
 refine⟨_,rfl,by decide,by decide,?_⟩
 let Jv:=λ(m:Nat) (ys:List V) (Z:St) (H2:Hp)=>∃(v8:Option V),Z=[rr a,ri first,ri n,some (.bl bk),rr d,none,none,none,v8,none]/\H2=H1/\ys=gk ((List.range m).map λ(j:Nat)=>nameOf (yY ns 0) j)
 refine rH (n:=3) (by decide) Jv ⟨none,rfl,rfl,rfl⟩ (by rintro _ _ _ _ ⟨_,_,_,e⟩;rw[e];simp) ?_ ?_
 ·rintro m ys Z H2 hm ⟨v8,rfl,rfl,rfl⟩
  refine⟨_,rfl,a,ns,0,rfl,nH ha s1,by decide,_,_,rfl,rfl,(by show(0:Int)<20736;decide),_,rfl,_,_,rfl,?_⟩
  refine⟨_,rfl,rfl,?_⟩
  rw[acx,aaG,<-nO]
  show _++[V.str (nameOf (yY ns 0) (0+(m:Int)))]=_
  rw[Int.zero_add]
  rfl
 rintro ys Z H2 ⟨v8,rfl,rfl,rfl⟩ ss RK
 have s2:=s1.new (o:=.lst (gk (rC ns))) RK
 have X2:=X1.same ((gh.refl H2).new (o:=.lst (gk (rC ns))) RK)
 have VE:(upd H2 ss (.lst (gk (rC ns)))) ss=some (.lst (gk (rC ns))):=b_
 have ZK:gk ((List.range 3).map λ(j:Nat)=>nameOf (yY ns 0) j)=gk (rC ns):=rfl
 rw[ZK]
 generalize upd H2 ss (.lst (gk (rC ns)))=H3 at s2 X2 VE
 refine⟨_,rfl,by decide,by decide,?_⟩
 let Jv:=λ(m:Nat) (ys:List V) (Z:St) (H2:Hp)=>∃(v8:Option V),Z=[rr a,ri first,ri n,some (.bl bk),rr d,rr ss,none,none,v8,none]/\H2=H3/\ys=gk ((List.range m).map λ(j:Nat)=>nameOf (yY ns 1) j)
 refine rH (n:=2) (by decide) Jv ⟨none,rfl,rfl,rfl⟩ (by rintro _ _ _ _ ⟨_,_,_,e⟩;rw[e];simp) ?_ ?_
 ·rintro m ys Z H2 hm ⟨v8,rfl,rfl,rfl⟩
  refine⟨_,rfl,a,ns,1,rfl,nH ha s2,by decide,_,_,rfl,rfl,(by show(0:Int)<20736;decide),_,rfl,_,_,rfl,?_⟩
  refine⟨_,rfl,rfl,?_⟩
  rw[acx,aaG,<-nO]
  show _++[V.str (nameOf (yY ns 1) (0+(m:Int)))]=_
  rw[Int.zero_add]
  rfl
 rintro ys Z H4 ⟨v8,rfl,rfl,rfl⟩ fs wy
 have ZL:gk ((List.range 2).map λ(j:Nat)=>nameOf (yY ns 1) j)=gk (qg ns):=rfl
 rw[ZL]
 have s3:=s2.new (o:=.lst (gk (qg ns))) wy
 have X3:=X2.same ((gh.refl H4).new (o:=.lst (gk (qg ns))) wy)
 have RN:=hZ (u:=.lst (gk (qg ns))) wy VE
 have VF:(upd H4 fs (.lst (gk (qg ns)))) fs=some (.lst (gk (qg ns))):=b_
 generalize upd H4 fs (.lst (gk (qg ns)))=H5 at s3 X3 RN VF
 dsimp only [l7];refine Jz ?_;intro _
 let Jv:=λ(i:Nat) (Z:St) (H6:Hp)=>∃(v7:Option V)(D:Dk)(W:Addr->Prop),Z=[rr a,ri first,ri n,some (.bl bk),rr d,rr ss,rr fs,v7,none,none]/\gh H H6/\H6 ss=some (.lst (gk (rC ns)))/\H6 fs=some (.lst (gk (qg ns)))/\ib A H6 d D W/\(∀b,W b->H b=none)/\Inv D/\D.made=[]/\D.stores=(rC ns).take i
 refine⟨_,rfl,ss,rfl,⟨_,gC.of RN⟩,iV (K:=K) (a:=ss) (xs:=gk (rC ns)) Jv
  ⟨none,Wh,W,rfl,s3,RN,VF,X3,hW0,Yg,rfl,rfl⟩ (by rintro _ _ _ _ ⟨_,_,_,_,_,e,_⟩;exact gC.of e) ?_ ?_⟩
 ·rintro i v Z H6 hx ⟨v7,D,W,rfl,s6,h1,h2,X6,VG,I6,SK,RO⟩
  obtain⟨st,uG,rfl⟩:=lO hx
  have g:=sT st (XY uG)
  have Sm:i<3:=(List.getElem?_eq_some_iff.mp uG).1
  have Ob:st∉D.stores:=λhm=>by
   rw[RO] at hm
   obtain⟨j,hj⟩:=aaT.mp hm
   have Jt:j<i:=by have:=(List.getElem?_eq_some_iff.mp hj).1;rw[aaO] at this;omega
   rw[ab_,aax Jt] at hj
   have:=(abR (List.getElem?_eq_some_iff.mp hj).1 (Cf ns)).mp (hj.trans uG.symm)
   omega
  obtain⟨Y,y⟩:=id X6
  refine⟨_,rfl,d,Y.dx,_,rfl,y.hd,La,_,rfl,d,D,W,st,rfl,X6,g.uE,?_,λh=>absurd g h,λ_ h=>absurd h Ob,λ_ _ H7 W7 X7 s7 hW7=>?_⟩
  ·rw[RO,aaO];omega
  ·refine⟨_,D.begin st,W7,rfl,λb o e=>?_,s7 _ _ h1 (X6.lst h1),s7 _ _ h2 (X6.lst h2),X7,λb hb=>?_,I6.begin Ob,SK,?_⟩
   ·exact s7 b o (s6 _ _ e) (λhb=>by rw[VG b hb] at e;cases e)
   ·rcases hW7 b hb with h|h
    ·exact VG b h
    ·exact s6.free h
   ·show D.stores++[st]=_
    rw[RO,take_snoc uG]
 rintro Z H6 ⟨v7,D0,W,rfl,s6,h1,h2,X6,VG,I6,SK,RO⟩
 have RO:D0.stores=rC ns:=by rw[RO,O4];exact aaD
 refine⟨_,rfl,_,rfl,by omega,by omega,?_⟩
 rw[abP]
 let Jv:=λ(i:Nat) (Z:St) (H7:Hp)=>∃(v8 v9:Option V)(D:Dk),Z=[rr a,ri first,ri n,some (.bl bk),rr d,rr ss,rr fs,v7,v8,v9]/\gh H H7/\H7 ss=some (.lst (gk (rC ns)))/\H7 fs=some (.lst (gk (qg ns)))/\ib A H7 d D W/\Inv D/\Sz i D/\D.stores=rC ns/\∀x∈D.names,∃j:Nat,j<i/\x=nameOf (yY ns 3) j
 refine lB Jv
  ⟨none,none,D0,rfl,s6,h1,h2,X6,I6,⟨by rw[SK];exact XU _,by rw[SK];exact XU _,by rw[SK];exact XU _⟩,RO,λx hx=>by unfold Dk.names at hx;rw[SK] at hx;cases hx⟩ ?_ ?_
 ·rintro i Z H7 hi ⟨v8,v9,D,rfl,s7,k1,k2,X7,I7,z7,W0,Pg⟩
  rw[show(0:Int)+(i:Int)=(i:Int) by omega]
  refine⟨_,rfl,_,rfl,_,rfl,_,_,rfl,rfl,a,ns,_,rfl,nH ha s7,by omega,?_⟩
  refine⟨λZ H8=>∃c:Int,Z=[rr a,ri first,ri n,some (.bl bk),rr d,rr ss,rr fs,v7,ri i,ri c]/\H8=H7,?_,?_⟩
  ·refine⟨_,rfl,_,rfl,_,_,rfl,rfl,_,rfl,a,_,rfl,.inl (nH ha s7),_,_,rfl,rfl,_,rfl,?_⟩
   refine kZ (λ_=>?_) (λ_=>⟨_,rfl,rfl⟩)
   refine⟨_,rfl,a,ns,2,rfl,nH ha s7,by decide,_,rfl,_,_,_,rfl,by decide,by omega,by omega,λx _ _=>⟨x,rfl,rfl⟩⟩
  rintro Z H8 ⟨c,rfl,rfl⟩
  refine⟨_,rfl,_,rfl,_,rfl,_,rfl,_,rfl,a,ns,3,rfl,nH ha s7,by decide,_,_,rfl,rfl,(by show(0:Int)<20736;decide),_,rfl,_,_,rfl,_,rfl,?_⟩
  have gx:=qb (yY ns 3) (i:Int)
  refine⟨d,ss,fs,D,W,i,rC ns,qg ns,c,_,bk,rfl,X7,I7,z7,by omega,k1,(by unfold rC;simp),(by show 3<=1000;decide),λt ht=>⟨by rw[W0];exact ht,(sT t ht).uE⟩,k2,(by unfold qg;simp),(by show 2<=1000;decide),Fl,gx,λhm=>?_,λt ht=>?_,λH9 D' X9 s9 I9 z9 hs9 hn9=>?_⟩
  ·obtain⟨j,hj,e⟩:=Pg _ hm
   have:=wb (by omega) (by omega) (by omega) (by omega) e
   omega
  ·obtain⟨j,hj,e⟩:=Pg _ ht
   rw[e];exact(qb _ _).uE
  ·refine⟨_,_,D',rfl,λb o e=>s9 b o (s7 _ _ e) (λhb=>by rw[VG b hb] at e;cases e),s9 _ _ k1 (X7.lst k1),s9 _ _ k2 (X7.lst k2),X9,I9,z9,hs9.trans W0,λt ht=>?_⟩
   rcases hn9 with e|e
   ·rw[e] at ht
    obtain⟨j,hj,e⟩:=Pg _ ht
    exact⟨j,by omega,e⟩
   ·rw[e] at ht
    rcases aak.mp ht with ht|ht
    ·obtain⟨j,hj,e⟩:=Pg _ ht
     exact⟨j,by omega,e⟩
    ·exact⟨i,by omega,XS.mp ht⟩
 ·rintro Z H7 ⟨v8,v9,D,rfl,s7,k1,k2,X7,I7,z7,W0,Pg⟩
  refine⟨_,rfl,_,rfl,_,rfl,L2.jM,λb hb=>?_⟩
  have s8:=s7.new (o:=.lst [.ref d,.ref ss,.ref fs]) hb
  exact q b d ss fs D W _ ⟨s8,s7.free hb,b_,hZ hb k1,hZ hb k2,X7.same ((gh.refl H7).new hb),VG,I7,z7,W0,Pg⟩
end
inductive Dv where
 | o
 | s (x:Str)
 | i (n:Int)
 | l (xs:List Dv)
 | t (xs:List Dv)
inductive Rep(H:Hp):Nat->V->Dv->Prop
 | o {n}:Rep H n .jc .o
 | s {n x}:Rep H n (.str x) (.s x)
 | i {n x}:Rep H n (.int x) (.i x)
 | l {n a vs xs} (h:H a=some (.lst vs)) (hl:vs.length=xs.length) (hr:∀(j:Nat) u d,vs[j]?=some u->xs[j]?=some d->Rep H n u d):Rep H (n+1) (.ref a) (.l xs)
 | t {n a vs xs} (h:H a=some (.tup vs)) (hl:vs.length=xs.length) (hr:∀(j:Nat) u d,vs[j]?=some u->xs[j]?=some d->Rep H n u d):Rep H (n+1) (.ref a) (.t xs)
theorem Rep.same{H H':Hp}{n:Nat}{v:V}{d:Dv}(r:Rep H n v d)(s:gh H H'):Rep H' n v d:=by
 induction r with
 | o=>exact .o
 | s=>exact .s
 | i=>exact .i
 | l h hl _ ih=>exact .l (s _ _ h) hl ih
 | t h hl _ ih=>exact .t (s _ _ h) hl ih
theorem Rep.up{H:Hp}{n:Nat}{v:V}{d:Dv}(r:Rep H n v d):Rep H (n+1) v d:=by
 induction r with
 | o=>exact .o
 | s=>exact .s
 | i=>exact .i
 | l h hl _ ih=>exact .l h hl ih
 | t h hl _ ih=>exact .t h hl ih
theorem Rep.mono{H:Hp}{n m:Nat}{v:V}{d:Dv}(r:Rep H n v d)(h:n<=m):Rep H m v d:=by
 obtain⟨k,rfl⟩:=Nat.exists_eq_add_of_le h
 induction k with
 | zero=>exact r
 | succ k ih=>exact(ih (by omega)).up
theorem all_true(n:Nat):((List.range n).all λ_=>true)=true:=by rw[abC];intro x _;rfl
theorem Rep.eq{K:Qqy}{H:Hp}{n:Nat}{u v:V}{d:Dv}(r1:Rep H n u d):Rep H n v d->mL K H n u v true:=by
 induction r1 generalizing v with
 | @o n=>
  intro r2
  cases r2
  exact mL.flat (K:=K) (H:=H) (n:=n) (x:=V.jc) (y:=V.jc) rfl rfl
 | @s n x=>
  intro r2
  cases r2
  have:=mL.CH (K:=K) (H:=H) (n:=n) x x
  rw[XZ rfl] at this
  exact this
 | @i n x=>
  intro r2
  cases r2
  have:=mL.J9 (K:=K) (H:=H) (n:=n) x x
  rw[XZ rfl] at this
  exact this
 | @l n a vs xs h hl hr ih=>
  intro r2
  cases r2 with
  | @l _ c ws _ h' yK ZM=>
   have:=mL.lists (K:=K) (H:=H) (n:=n) (e:=λ_=>true) (gC.of h) (gC.of h') (hl.trans yK.symm) λj u v hu hv=>by
    have hj:j<xs.length:=by rw[<-hl];exact(List.getElem?_eq_some_iff.mp hu).1
    exact ih j u _ hu (UQ hj) (ZM j v _ hv (UQ hj))
   rw[all_true] at this
   exact this
 | @t n a vs xs h hl hr ih=>
  intro r2
  cases r2 with
  | @t _ c ws _ h' yK ZM=>
   have:=mL.qh (K:=K) (H:=H) (n:=n) (e:=λ_=>true) (ox.of h) (ox.of h') λj u v hu hv=>by
    have hj:j<xs.length:=by rw[<-hl];exact(List.getElem?_eq_some_iff.mp hu).1
    exact ih j u _ hu (UQ hj) (ZM j v _ hv (UQ hj))
   rw[all_true,hl,yK,beq_self_eq_true,Bool.and_true] at this
   exact this
theorem Rep.xw{H:Hp}{n:Nat}{a:Addr}{Y:Type}{F:V->Y->Prop}{g:Y->Dv}{vs:List V}{xs:List Y}(h:H a=some (.lst vs))(p:Paired F vs xs)(hF:∀v x,F v x->Rep H n v (g x)):Rep H (n+1) (.ref a) (.l (xs.map g)):=by
 refine .l h (by rw[O4];exact aau p) λj u d hu hd=>?_
 obtain⟨x,hx,f⟩:=ic p hu
 rw[aan,hx] at hd
 cases hd
 exact hF u x f
theorem Rep.strs{H:Hp}{a:Addr}{n:Nat}{l:List Str}(h:H a=some (.lst (gk l))):Rep H (n+1) (.ref a) (.l (l.map Dv.s)):=by
 refine .l h (by rw[O4,O4]) λj u d hu hd=>?_
 obtain⟨x,hx,rfl⟩:=lO hu
 rw[aan,hx] at hd
 cases hd
 exact .s
theorem Rep.two{H:Hp}{a:Addr}{n:Nat}{u v:V}{x y:Dv}(h:H a=some (.lst [u,v]))(h1:Rep H n u x)(h2:Rep H n v y):Rep H (n+1) (.ref a) (.l [x,y]):=by
 refine .l h rfl λj u' d hu hd=>?_
 match j with
 | 0=>cases hu;cases hd;exact h1
 | 1=>cases hu;cases hd;exact h2
 | j+2=>simp at hu
def Jd(row:List Ln):Dv:=.l (row.map λl=>.t [.s l.nm.1,.i l.nm.2,.s l.tx])
def Sd(qs:List (Nat×Nat)):Dv:=.l (qs.map λq=>.t [.i q.1,.i q.2])
theorem v_.rep{H:Hp}{a:Addr}{row:List Ln}(x:v_ H a row):Rep H 2 (.ref a) (Jd row):=by
 obtain⟨vs,h,p⟩:=x
 refine Rep.xw h p λv l ⟨t,e,ht⟩=>?_
 subst e
 refine .t ht rfl λj u d hu hd=>?_
 match j with
 | 0=>cases hu;cases hd;exact .s
 | 1=>cases hu;cases hd;exact .i
 | 2=>cases hu;cases hd;exact .s
 | j+3=>simp at hu
theorem Ci{H:Hp}{a:Addr}{vs:List V}{qs:List (Nat×Nat)}(h:H a=some (.lst vs))(x:iC H qs vs):Rep H 2 (.ref a) (Sd qs):=by
 refine .l h (by rw[O4];exact(aau x).symm) λj u d hu hd=>?_
 obtain⟨q,hq,b,e,hb⟩:=ir x hu
 subst e
 rw[aan,hq] at hd
 cases hd
 refine .t hb rfl λj u d hu hd=>?_
 match j with
 | 0=>cases hu;cases hd;exact .i
 | 1=>cases hu;cases hd;exact .i
 | j+2=>simp at hu
noncomputable def OM(D:Dk)(s:Str)(files:List Str):Dv:=.l (files.map λf=>.l [Jd (D.row s f),Sd (D.jR s f)])
end PK
namespace L2
open PySem PySem.Spec PyProof.Rows
noncomputable def eV:Value->V
 | .bool b=>.bl b
 | .int i _=>.int i
 | .str z _=>.str z
 | .bytes b _=>.D7 b
 | .float b _=>.Mj b
 | .ref a=>.ref a
 | .type n=>.ty n
 | _=>.jc
theorem ON{y:V}{u:Value}(r:RelV y u):eV u=y:=by
 cases y with
 | jc=>cases r;rfl
 | bl b=>cases r;rfl
 | int i=>obtain⟨t,rfl⟩:=r;rfl
 | str z=>obtain⟨t,rfl⟩:=r;rfl
 | D7 z=>obtain⟨t,rfl⟩:=r;rfl
 | Mj z=>obtain⟨t,rfl⟩:=r;rfl
 | ref a=>cases r;rfl
 | ty n=>cases r;rfl
theorem Lk{g:V->Bool}:∀{xs:List V} {us:List Value},Vals xs us->us.any (λu=>g (eV u))=xs.any g
 | _,_,.nil=>rfl
 | y::xs,u::us,.cons r t=>by rw[acz,acz,ON r,Lk t]
section
variable{X:Cx}
def Yi(K:Qqy)(n:Nat)(neg:Bool):R2:=λx y H Q=>∃p xs,∃g:V->Bool,y=.ref p/\gC K H p xs/\(∀z∈xs,mL K H n z x (g z))/\Q (.bl (if neg then !xs.any g else xs.any g)) H
theorem NP{c_:Qqz}{Z:St}{H:Hp}{s:Shared}{n:Nat}{xs:List V}{hE:List Value}{x:V}{v:Value}{g:V->Bool}(hu:X.A.units+n+1<cLine)(I:Inv X c_ Z H s)(r:Vals xs hE)(rx:RelV x v)(hg:∀z∈xs,mL X.K H n z x (g z)):∀w∈hE.toArray,SeqAt.EqAt X.A.in1 s w v (g (eV w)):=λw hw=>by
 have hw:w∈hE:=by simpa using hw
 obtain⟨j,hj,rfl⟩:=List.mem_iff_getElem.mp hw
 have hl:=r.length
 obtain⟨u,SI,ru⟩:=r.get (UQ (i:=j) (by omega))
 rw[UQ hj] at SI
 cases SI
 rw[ON ru]
 exact(hg _ (acm _)).at I X.A.in1 _ _ ru rx (by show X.A.units+1+n<cLine;omega)
theorem Cj(n:Nat)(hu:X.A.units+n+1<cLine):xN X (compareOp .NotIn) (Yi X.K n true):=by
 intro c_ s Z H x y v u Q I rx ry h
 obtain⟨p,xs,g,rfl,hq,hg,q⟩:=h
 cases ry
 obtain⟨hE,r,pl,hz⟩:=I.list hq
 refine SeqAt.notIn_listAt (λw=>g (eV w)) pl.isList (NP hu I r rx hg) ⟨.bl _,H,I,rfl,?_⟩
 rw[show hE.toArray.any (λw=>g (eV w))=hE.any (λw=>g (eV w)) by simp,Lk r]
 exact q
end
section
variable{X:Cx}{tg:Expr}
end
open PySem PySem.W PyProof.Rows
section
variable(n:Nat)(o:Nat->Nat->Bool)
def xx{Z:Type}:KasT Z->Z
 | .ret a=>a
 | .ask i j k=>xx (k (o i j))
def Gd{Z:Type}:KasT Z->Prop
 | .ret _=>True
 | .ask i j k=>i<n/\j<n/\Gd (k (o i j))
def Rn{Z:Type}(t:KasT Z)(P:Z->Prop):Prop:=Gd n o t/\P (xx o t)
variable{n o}
theorem Rn.ret{Z:Type}{a:Z}{P:Z->Prop}(h:P a):Rn n o (.ret a) P:=⟨trivial,h⟩
theorem Rn.ask{Z:Type}{i j:Nat}{k:Bool->KasT Z}{P:Z->Prop}(hi:i<n)(hj:j<n)(h:Rn n o (k (o i j)) P):Rn n o (.ask i j k) P:=⟨⟨hi,hj,h.1⟩,h.2⟩
theorem yF{Z Y:Type}{f:Z->KasT Y}:∀t:KasT Z,xx o (t.bind f)=xx o (f (xx o t))
 | .ret a=>rfl
 | .ask i j k=>yF (k (o i j))
theorem HK{Z Y:Type}{f:Z->KasT Y}:∀t:KasT Z,Gd n o t->Gd n o (f (xx o t))->Gd n o (t.bind f)
 | .ret a,_,h=>h
 | .ask i j k,h,h'=>⟨h.1,h.2.1,HK (k (o i j)) h.2.2 h'⟩
theorem Rn.bind{Z Y:Type}{t:KasT Z}{f:Z->KasT Y}{P:Y->Prop}(h:Rn n o t λa=>Rn n o (f a) P):Rn n o (t.bind f) P:=⟨HK t h.1 h.2.1,by rw[yF];exact h.2.2⟩
theorem Rn.mono{Z:Type}{t:KasT Z}{P P':Z->Prop}(h:Rn n o t P)(hp:∀a,P a->P' a):Rn n o t P':=⟨h.1,hp _ h.2⟩
theorem Rn.wp{Z:Type}{cmp:Nat->Nat->(Bool->Shared->Prop)->Shared->Prop}{Q:Z->Shared->Prop}{s:Shared}(hc:∀i j C,i<n->j<n->C (o i j) s->cmp i j C s):∀{t:KasT Z} {P:Z->Prop},Rn n o t P->(∀a,P a->Q a s)->t.kasWp cmp Q s
 | .ret a,P,h,hq=>hq a h.2
 | .ask i j k,P,h,hq=>hc i j _ h.1.1 h.1.2.1 (Rn.wp hc (t:=k (o i j)) ⟨h.1.2.2,h.2⟩ hq)
end
section
variable{n:Nat}{k:Nat->Nat}
def Pm(n:Nat)(p:Array Nat):Prop:=p.toList.Perm (List.range n)
theorem Pm.size{p:Array Nat}(h:Pm n p):p.size=n:=by rw[<-aa3,List.Perm.length_eq h,abQ]
theorem Pm.lt{p:Array Nat}(h:Pm n p)(hn:0<n)(i:Nat):p.getD i 0<n:=by
 unfold Array.getD
 split
 ·rename_i hi
  have:p[i]∈p.toList:=by simp
  exact abr.mp (List.Perm.subset h this)
 ·exact hn
theorem Pm.perm{p q:Array Nat}(h:Pm n p)(hq:q.Perm p):Pm n q:=(Array.perm_iff_toList_perm.mp hq).trans h
noncomputable def kr(k:Nat->Nat)(p:Array Nat)(i:Nat):Nat:=k (p.getD i 0)
theorem sU{p q:Array Nat}{i j:Nat}(h:p[i]?=q[j]?):kr k p i=kr k q j:=by
 unfold kr
 rw[Array.getD_eq_getD_getElem?,Array.getD_eq_getD_getElem?,h]
theorem GU{p:Array Nat}{i j:Nat}(hj:j<=p.size)(x:Nat):kr k (kas_rev p i j) x=if i<=x/\x<j then kr k p (i+j-1-x) else kr k p x:=by
 have e:=getElem?_mirror_all (i:=i) hj x
 unfold kas_rev
 by_cases h1:i<=x/\x<j
 ·rw[aax h1] at e ⊢;exact sU e
 ·rw[aav h1] at e ⊢;exact sU e
theorem Dt{p:Array Nat}{i j:Nat}(hj:j<=p.size)(heq:∀x,i<=x->x<j->kr k p x=kr k p (j-1))(x:Nat):kr k (kas_rev p i j) x=kr k p x:=by
 rw[GU hj]
 split
 ·rw[heq _ (by omega) (by omega),heq x (by omega) (by omega)]
 ·rfl
theorem Ll{p:Array Nat}{src d:Nat}(hs:src<p.size)(hd:d<=src)(x:Nat):kr k (bubble p src d) x=if x=src-d then kr k p src else if src-d<x/\x<=src then kr k p (x-1) else kr k p x:=by
 have e:=getElem?_bubble hs d hd x
 by_cases h1:x=src-d
 ·rw[aax h1] at e ⊢;exact sU e
 ·rw[aav h1] at e ⊢
  by_cases h2:src-d<x/\x<=src
  ·rw[aax h2] at e ⊢;exact sU e
  ·rw[aav h2] at e ⊢;exact sU e
def Je(k:Nat->Nat)(p:Array Nat)(m:Nat):Prop:=∀i j,i<=j->j<m->kr k p i<=kr k p j
def Ui(k:Nat->Nat)(p:Array Nat)(m:Nat):Prop:=∀i j,i<=j->j<m->kr k p j<=kr k p i
noncomputable abbrev Jf(k:Nat->Nat):Nat->Nat->Bool:=λi j=>decide (k i<k j)
theorem Rn.ak{p:Array Nat}{Z:Type}{i j:Nat}{f:Bool->KasT Z}{P:Z->Prop}(hp:Pm n p)(hn:0<n)(h1:kr k p i<kr k p j->Rn n (Jf k) (f true) P)(h0:¬kr k p i<kr k p j->Rn n (Jf k) (f false) P):Rn n (Jf k) (.ask (p.getD i 0) (p.getD j 0) f) P:=by
 refine .ask (hp.lt hn _) (hp.lt hn _) ?_
 by_cases h:kr k p i<kr k p j
 ·rw[show Jf k (p.getD i 0) (p.getD j 0)=true from XZ h]
  exact h1 h
 ·rw[show Jf k (p.getD i 0) (p.getD j 0)=false from aap h]
  exact h0 h
theorem GV{p:Array Nat}(hp:Pm n p)(hn:0<n):∀f a,1<=a->Je k p a->Rn n (Jf k) (kas_asc p f a) λm=>a<=m/\m<=a+f/\Je k p m/\(m=a+f\/kr k p m<kr k p (m-1))
 | 0,a,ha,hs=>.ret ⟨XU _,XU _,hs,.inl rfl⟩
 | f+1,a,ha,hs=>by
  refine .ak hp hn (λh=>?_) λh=>?_
  ·exact .ret ⟨XU _,by omega,hs,.inr h⟩
  ·refine(GV hp hn f (a+1) (by omega) λi j Fw hj=>?_).mono λm ⟨h1,h2,h3,h4⟩=>⟨by omega,by omega,h3,h4.imp (λz=>by omega) id⟩
   rcases(by omega:j<a\/j=a/\(i=j\/i<=a-1)) with e|⟨rfl,rfl|e⟩
   ·exact hs i j Fw e
   ·exact XU _
   ·have:=hs i (j-1) e (by omega)
    omega
theorem HL{p:Array Nat}(hp:Pm n p)(hn:0<n){m nr:Nat}(h1:1<=m)(hm:m<=nr)(SM:nr<=n)(hs:Ui k p m):Rn n (Jf k) (kas_tail3 m nr p) λr=>1<=r.1/\r.1<=nr/\Pm n r.2/\Je k r.2 r.1:=by
 unfold kas_tail3
 have Si:Pm n (kas_rev p 0 m):=hp.perm (mirror_perm _ _ _ _)
 refine .bind ((GV Si hn (nr-m) m h1 λi j Fw hj=>?_).mono λx ⟨g1,g2,g3,_⟩=>.ret ⟨by omega,by omega,Si,g3⟩)
 rw[GU (by rw[hp.size];omega),GU (by rw[hp.size];omega),aax (by omega),aax (by omega)]
 exact hs _ _ (by omega) (by omega)
theorem zj(hn:0<n):∀f (p:Array Nat) a q,Pm n p->1<=a->a+f<=n->Ui k p a->q+1<=a->(∀i,a-(q+1)<=i->i<a->kr k p i=kr k p (a-1))->
  Rn n (Jf k) (kas_desc f p a q) λr=>Pm n r.1/\a<=r.2.1/\r.2.1<=a+f/\Ui k r.1 r.2.1/\r.2.2+1<=r.2.1/\∀i,r.2.1-(r.2.2+1)<=i->i<r.2.1->kr k r.1 i=kr k r.1 (r.2.1-1)
 | 0,p,a,q,hp,h1,ha,hs,hq,he=>.ret ⟨hp,XU _,XU _,hs,hq,he⟩
 | f+1,p,a,q,hp,h1,ha,hs,hq,he=>by
  have step:∀p':Array Nat,(∀x,kr k p' x=kr k p x)->kr k p a<=kr k p (a-1)->Ui k p' (a+1):=λp' hk hle i j Fw hj=>by
   rw[hk,hk]
   rcases(by omega:j<a\/j=a/\(i=j\/i<=a-1)) with e|⟨rfl,rfl|e⟩
   ·exact hs i j Fw e
   ·exact XU _
   ·have:=hs i (j-1) e (by omega)
    omega
  refine .ak hp hn (λh=>?_) λh=>?_
  ·by_cases L8:q>0
   ·rw[aax L8]
    refine(zj hn f (kas_rev p (a-(q+1)) a) (a+1) 0 (hp.perm (mirror_perm _ _ _ _)) (by omega) (by omega) (step _ (Dt (by rw[hp.size];omega) he) (by omega)) (by omega) λi g1 g2=>by congr 1;omega).mono λr ⟨g1,g2,g3,g4⟩=>⟨g1,by omega,by omega,g4⟩
   ·rw[aav L8]
    exact(zj hn f p (a+1) 0 hp (by omega) (by omega) (step _ (λ_=>rfl) (by omega)) (by omega) λi g1 g2=>by congr 1;omega).mono λr ⟨g1,g2,g3,g4⟩=>⟨g1,by omega,by omega,g4⟩
  ·refine .ak hp hn (λh'=>?_) λh'=>?_
   ·exact .ret ⟨hp,XU _,Nat.le_add_right _ _,hs,hq,he⟩
   ·have e:kr k p a=kr k p (a-1):=by omega
    refine(zj hn f p (a+1) (q+1) hp (by omega) (by omega) (step _ (λ_=>rfl) (by omega)) (by omega) λi g1 g2=>?_).mono λr ⟨g1,g2,g3,g4⟩=>⟨g1,by omega,by omega,g4⟩
    rw[show a+1-1=a by omega]
    by_cases e2:i=a
    ·rw[e2]
    ·rw[e];exact he i (by omega) (by omega)
theorem yG{p:Array Nat}(hp:Pm n p)(hn:0<n){m nr:Nat}(hm:m+1<=nr)(SM:nr<=n)(hs:Ui k p (m+1)):Rn n (Jf k) (kas_descPart m nr p) λr=>1<=r.1/\r.1<=nr/\Pm n r.2/\Je k r.2 r.1:=by
 unfold kas_descPart
 refine .bind ((zj hn (nr-(m+1)) p (m+1) 0 hp (by omega) (by omega) hs (by omega) λi g1 g2=>by congr 1;omega).mono λr ⟨g1,g2,g3,g4,g5,g6⟩=>?_)
 by_cases hq:r.2.2>0
 ·rw[aax hq]
  refine HL (g1.perm (mirror_perm _ _ _ _)) hn (by omega) (by omega) SM λi j Fw hj=>?_
  have e:=Dt (k:=k) (p:=r.1) (i:=r.2.1-(r.2.2+1)) (j:=r.2.1) (by rw[g1.size];omega) g6
  rw[show mirror r.1 (r.2.1-(r.2.2+1)) r.2.1 ((r.2.1-(r.2.1-(r.2.2+1)))/2)=kas_rev r.1 (r.2.1-(r.2.2+1)) r.2.1 from rfl,e,e]
  exact g4 i j Fw hj
 ·rw[aav hq]
  exact HL g1 hn (by omega) (by omega) SM g4
theorem Lm{p:Array Nat}(hp:Pm n p)(hn:0<n){nr:Nat}(h1:1<=nr)(SM:nr<=n):Rn n (Jf k) (kas_count nr p) λr=>1<=r.1/\r.1<=nr/\Pm n r.2/\Je k r.2 r.1:=by
 unfold kas_count
 refine .bind ((GV hp hn (nr-1) 1 (XU _) λi j Fw hj=>by rw[show i=j by omega];exact XU _).mono λm ⟨g1,g2,g3,g4⟩=>?_)
 by_cases e:m=nr
 ·rw[aax (by simpa using e)]
  exact .ret ⟨g1,by omega,hp,g3⟩
 ·rw[aav (by simpa using e)]
  have j3:kr k p m<kr k p (m-1):=g4.resolve_left (by omega)
  by_cases hg:m>1
  ·rw[aax hg]
   refine .ak hp hn (λh=>?_) λh=>?_
   ·exact .ret ⟨g1,by omega,hp,g3⟩
   ·have wo:∀x,0<=x->x<m->kr k p x=kr k p (m-1):=λx _ hx=>by
     have a1:=g3 0 x (by omega) hx
     have a2:=g3 x (m-1) (by omega) (by omega)
     omega
    have er:=Dt (k:=k) (p:=p) (i:=0) (j:=m) (by rw[hp.size];omega) wo
    refine yG (hp.perm (mirror_perm _ _ _ _)) hn (by omega) SM λi j Fw hj=>?_
    rw[show mirror p 0 m ((m-0)/2)=kas_rev p 0 m from rfl,er,er]
    by_cases e2:j=m
    ·by_cases e3:i=j
     ·rw[e3];exact XU _
     ·rw[e2,wo i (by omega) (by omega)];omega
    ·rw[wo i (by omega) (by omega),wo j (by omega) (by omega)];exact XU _
  ·rw[aav hg]
   have:m=1:=by omega
   subst this
   refine yG hp hn (by omega) SM λi j Fw hj=>?_
   by_cases e3:i=j
   ·rw[e3];exact XU _
   ·have hi:i=0:=by omega
    have hj:j=1:=by omega
    rw[hi,hj]
    exact acI j3
theorem AB{p:Array Nat}(hp:Pm n p)(hn:0<n){x:Nat}(hs:Je k p x):∀f l r,l<=r->r<=x->r-l<=f->(∀i,i<l->kr k p i<=kr k p x)->(∀i,r<=i->i<x->kr k p x<kr k p i)->Rn n (Jf k) (kas_place p x f l r) λl=>l<=x/\(∀i,i<l->kr k p i<=kr k p x)/\∀i,l<=i->i<x->kr k p x<kr k p i
 | 0,l,r,N9,ZN,hf,OY,W3=>by
  have:l=r:=by omega
  subst this
  exact .ret ⟨ZN,OY,W3⟩
 | f+1,l,r,N9,ZN,hf,OY,W3=>by
  unfold kas_place
  by_cases hge:l>=r
  ·rw[aax hge]
   have:l=r:=by omega
   subst this
   exact .ret ⟨ZN,OY,W3⟩
  ·rw[aav hge]
   refine .ak hp hn (λh=>?_) λh=>?_
   ·refine AB hp hn hs f l ((l+r)/2) (by omega) (by omega) (by omega) OY λi g1 g2=>?_
    have:=hs _ _ g1 g2
    omega
   ·refine AB hp hn hs f ((l+r)/2+1) r (by omega) (by omega) (by omega) (λi g1=>?_) W3
    have:=hs i ((l+r)/2) (by omega) (by omega)
    omega
theorem Lo(hn:0<n):∀f (p:Array Nat) x,Pm n p->x+f=n->Je k p x->Rn n (Jf k) (kas_bin f p x) λr=>Pm n r/\Je k r n
 | 0,p,x,hp,hx,hs=>.ret ⟨hp,by rw[<-hx];exact hs⟩
 | f+1,p,x,hp,hx,hs=>by
  refine .bind ((AB hp hn hs x 0 x (aaY _) (XU _) (by omega) (λi hi=>by omega) (λi h1 h2=>by omega)).mono λl ⟨g1,g2,g3⟩=>?_)
  refine Lo hn f (bubble p x (x-l)) (x+1) (hp.perm (bubble_perm _ _ _)) (by omega) λi j Fw hj=>?_
  have hsz:x<p.size:=by rw[hp.size];omega
  rw[Ll hsz (by omega),Ll hsz (by omega),show x-(x-l)=l by omega]
  repeat' split
  all_goals first
   | (exfalso;omega)
   | exact XU _
   | exact g2 _ (by omega)
   | exact acI (g3 _ (by omega) (by omega))
   | exact hs _ _ (by omega) (by omega)
theorem NQ(hn:0<n):Rn n (Jf k) (kas_sort n) λr=>Pm n r/\Je k r n:=by
 unfold kas_sort
 have hp:Pm n (List.toArray (List.range n)):=by unfold Pm;rw[List.toList_toArray]
 refine .bind ((Lm hp hn hn (XU _)).mono λr ⟨g1,g2,g3,g4⟩=>?_)
 by_cases h:r.1<n
 ·rw[aax h]
  have e:max r.1 1=r.1:=by omega
  rw[e]
  exact Lo hn _ _ _ g3 (by omega) g4
 ·rw[aav h]
  have e:r.1=n:=by omega
  rw[e] at g4
  exact .ret ⟨g3,g4⟩
end
open PySem PySem.W PySem.Spec PyProof.Rows
abbrev T3:=Str×Int×Str
noncomputable def sl(a b:Str):Bool:=decide (a.cps.toList<b.cps.toList)
noncomputable def Ck(x y:T3):Bool:=if x.1=y.1 then(if x.2.1=y.2.1 then(if x.2.2=y.2.2 then false else sl x.2.2 y.2.2) else decide (x.2.1<y.2.1)) else sl x.1 y.1
theorem Lp(a:Str):sl a a=false:=strKind.irrefl a.cps.toList
theorem NR{a b:Str}(h:a.cps.toList=b.cps.toList):a=b:=by
 cases a;cases b
 exact abd Str.mk (Array.toList_inj.mp h)
theorem Lq{a b:Str}(h1:sl a b=false)(h2:sl b a=false):a=b:=NR (strKind.total _ _ h1 h2)
theorem OO{a b c:Str}(h1:sl a b=true)(h2:sl b c=true):sl a c=true:=strKind.trans _ _ _ h1 h2
theorem NS(x:T3):Ck x x=false:=by unfold Ck;rw[aax rfl,aax rfl,aax rfl]
theorem HM{x y:T3}(h1:Ck x y=false)(h2:Ck y x=false):x=y:=by
 unfold Ck at h1 h2
 obtain⟨a,b,c⟩:=x
 obtain⟨a',b',c'⟩:=y
 dsimp only at h1 h2
 by_cases e1:a=a'
 ·subst e1
  rw[aax rfl] at h1 h2
  by_cases e2:b=b'
  ·subst e2
   rw[aax rfl] at h1 h2
   by_cases e3:c=c'
   ·rw[e3]
   ·rw[aav e3] at h1
    rw[aav (ab0 e3)] at h2
    exact absurd (Lq h1 h2) e3
  ·rw[aav e2] at h1
   rw[aav (ab0 e2)] at h2
   have h1:=of_decide_eq_false h1
   have h2:=of_decide_eq_false h2
   omega
 ·rw[aav e1] at h1
  rw[aav (ab0 e1)] at h2
  exact absurd (Lq h1 h2) e1
theorem Q1{x y z:T3}(h1:Ck x y=true)(h2:Ck y z=true):Ck x z=true:=by
 unfold Ck at h1 h2 ⊢
 obtain⟨a,b,c⟩:=x
 obtain⟨a',b',c'⟩:=y
 obtain⟨a2,b2,c2⟩:=z
 dsimp only at h1 h2 ⊢
 by_cases e1:a=a'
 ·subst e1
  rw[aax rfl] at h1
  by_cases f1:a=a2
  ·subst f1
   rw[aax rfl] at h2 ⊢
   by_cases e2:b=b'
   ·subst e2
    rw[aax rfl] at h1
    by_cases f2:b=b2
    ·subst f2
     rw[aax rfl] at h2 ⊢
     by_cases e3:c=c'
     ·rw[aax e3] at h1;cases h1
     ·rw[aav e3] at h1
      by_cases f3:c'=c2
      ·rw[aax f3] at h2;cases h2
      ·rw[aav f3] at h2
       have:=OO h1 h2
       by_cases g:c=c2
       ·subst g;rw[Lp] at this;cases this
       ·rw[aav g];exact this
    ·rw[aav f2] at h2 ⊢;exact h2
   ·rw[aav e2] at h1
    have h1:=aaA h1
    by_cases f2:b'=b2
    ·subst f2
     rw[aav e2];exact XZ h1
    ·rw[aav f2] at h2
     have h2:=aaA h2
     rw[aav (by omega)]
     exact XZ (by omega)
  ·rw[aav f1] at h2 ⊢;exact h2
 ·rw[aav e1] at h1
  by_cases f1:a'=a2
  ·subst f1
   rw[aav e1];exact h1
  ·rw[aav f1] at h2
   have:=OO h1 h2
   by_cases g:a=a2
   ·subst g;rw[Lp] at this;cases this
   ·rw[aav g];exact this
noncomputable def Jg(ts:List T3)(i:Nat):Nat:=((ts[i]?).map λx=>(ts.filter λy=>Ck y x).length).getD 0
theorem pd{Z:Type}{p q:Z->Bool}:∀{l:List Z},(∀x∈l,p x=true->q x=true)->(l.filter p).length<=(l.filter q).length
 | [],_=>XU _
 | x::r,h=>by
  have ih:=pd (l:=r) λy hy=>h y (aal _ hy)
  by_cases hp:p x=true
  ·rw[YR hp,YR (h x aaC hp),aah,aah];omega
  ·rw[aai hp]
   by_cases hq:q x=true
   ·rw[YR hq,aah];omega
   ·rw[aai hq];exact ih
theorem Br{Z:Type}{p q:Z->Bool}{l:List Z}{x:Z}(hx:x∈l)(hp:p x=false)(hq:q x=true)(h:∀x∈l,p x=true->q x=true):(l.filter p).length<(l.filter q).length:=by
 obtain⟨a,b,rfl⟩:=List.append_of_mem hx
 have h1:=pd (l:=a) λy hy=>h y (aaI _ hy)
 have h2:=pd (l:=b) λy hy=>h y (aaW _ (aal _ hy))
 rw[aaH,aaH,YN,YN,aai (by rw[hp];decide),YR hq,aah]
 omega
theorem Lr{ts:List T3}{i j:Nat}{x y:T3}(hx:ts[i]?=some x)(hy:ts[j]?=some y):decide (Jg ts i<Jg ts j)=Ck x y:=by
 have key:∀{i j:Nat} {x y:T3},ts[i]?=some x->ts[j]?=some y->Ck x y=true->Jg ts i<Jg ts j:=λ{i j x y} hx hy h=>by
  unfold Jg
  rw[hx,hy]
  exact Br (XY hx) (NS x) h λz _ hz=>Q1 hz h
 cases h:Ck x y with
 | true=>exact XZ (key hx hy h)
 | false=>
  refine aap λz=>?_
  cases h':Ck y x with
  | true=>have:=key hy hx h';omega
  | false=>
   have e:=HM h h'
   subst e
   unfold Jg at z
   rw[hx,hy] at z
   exact abu _ z
def xy(h:Heap)(v:Value)(x:T3):Prop:=∃a o t1 t2 t3 m,v=.ref a/\h.get? a=some o/\o.cls=.type "tuple"/\o.data=.seq #[.str x.1 t1,.int x.2.1 t2,.str x.2.2 t3] m
section
variable{prog:Program}{w:World}{A:Around}{E:Qqq}{s:Shared}
theorem Q2{u v:Value}{x y:T3}{Q:Bool->Shared->Prop}(hu:xy s.heap u x)(hv:xy s.heap v y)(hq:Q (Ck x y) s):wpAny (model prog w) A (keyLt' (tuples' true) u v) Q (λ_ _=>False) s:=by
 obtain⟨a,o,t1,t2,t3,m,rfl,ho,hc,hd⟩:=hu
 obtain⟨a',o',t1',t2',t3',m',rfl,qf,Bu,Ur⟩:=hv
 refine kat_lt ho hd qf Ur ?_
 obtain⟨x1,x2,x3⟩:=x
 obtain⟨y1,y2,y3⟩:=y
 unfold Ck at hq
 dsimp only at hq
 show KatLex prog w A true (decide (3<3)) Q [(Value.str x1 t1,Value.str y1 t1'),(Value.int x2 t2,Value.int y2 t2'),(Value.str x3 t3,Value.str y3 t3')] 0 s
 refine kat_cons (wpAny_eqBool_str ?_)
 by_cases e1:x1=y1
 ·rw[aax e1] at hq
  rw[XZ e1]
  refine kat_yes (kat_cons (wpAny_eqBool_int ?_))
  by_cases e2:x2=y2
  ·rw[aax e2] at hq
   rw[show(x2 ==y2)=true by simpa using e2]
   refine kat_yes (kat_cons (wpAny_eqBool_str ?_))
   by_cases e3:x3=y3
   ·rw[aax e3] at hq
    rw[XZ e3]
    exact kat_yes (kat_nil hq)
   ·rw[aav e3] at hq
    rw[aap e3]
    exact kat_no (kat_one _ _ (lt_str hq))
  ·rw[aav e2] at hq
   rw[show(x2 ==y2)=false by simpa using e2]
   exact kat_no (kat_one _ _ (lt_int hq))
 ·rw[aav e1] at hq
  rw[aap e1]
  exact kat_no (oneLt_str hq)
end
section
variable{prog:Program}{w:World}{A:Around}{E:Qqq}{s:Shared}
noncomputable abbrev QF(h:Heap)(a:Addr)(vs:List Value):Heap:=((h.update a (Obj.mapSeq λ_=>#[])).push (seqObj "tuple" vs.toArray 0)).push (seqObj "list" #[] 0)
noncomputable abbrev Se(s:Shared)(a:Addr)(vs:List Value):Shared:={s with heap:=QF s.heap a vs}
noncomputable abbrev Wi(h:Heap)(vs:List Value):Heap:=((h.push (seqObj "list" #[] 0)).update h.objs.size (Obj.mapSeq (·++vs.toArray))).push (seqObj "list" vs.toArray 0)
theorem Bs{a:Addr}{vs:List Value}{ts:List T3}{n:Nat}{P:PySem.Fin->Shared->Prop}(ho:s.heap.get? a=some (seqObj "list" vs.toArray n))
  (ht:Paired (xy s.heap) vs ts) (hna:∀v∈vs,v≠.ref a) (W4:vs.length<64)
  (h:∀p:Array Nat,Pm vs.length p->Je (Jg ts) p vs.length->P (.done (.ret .none)) {s with heap:=sortedHeap s.heap a vs (List.toArray (p.toList.map λi=>vs.getD i Value.none))}) :
  wpAny (model prog w) A (Builtin.«list.sort» ⟨[.ref a],[]⟩) P E s:=by
 rw[list_sort_plain]
 have ha:a<s.heap.objs.size:=aaJ ho
 have hlen:=aau ht
 refine UU (listItems_at ho rfl ?_)
 refine UU (listUpdate_at ho rfl ?_)
 obtain⟨e1,RM⟩:∃e1,(s.heap.update a (Obj.mapSeq λ_=>#[])).get? a=some (seqObj "list" #[] e1):=⟨_,get?_update_seq ho (λ_=>#[])⟩
 refine UU (seqEpoch_at RM rfl ?_)
 refine UU (wpAny_newTuple ?_)
 refine UU (wpAny_newList ?_)
 refine abS ?_
 have W5:(QF s.heap a vs).get? a=some (seqObj "list" #[] e1):=by
  rw[ach _ _ _ (by rw[size_push',Heap.size_update];exact aa0 (Nat.lt_succ_of_lt ha)),ach _ _ _ (by rw[Heap.size_update];exact aa0 ha)]
  exact RM
 have keep:∀b o,b≠a->s.heap.get? b=some o->(QF s.heap a vs).get? b=some o:=λb o hb e=>by
  have j3:=aaJ e
  rw[ach _ _ _ (by rw[size_push',Heap.size_update];exact aa0 (Nat.lt_succ_of_lt j3)),ach _ _ _ (by rw[Heap.size_update];exact aa0 j3),Heap.get?_update_ne _ _ _ _ hb]
  exact e
 have G8:Paired (xy (QF s.heap a vs)) vs ts:=by
  have key:∀{us:List Value} {ys:List T3},(∀v∈us,v≠.ref a)->Paired (xy s.heap) us ys->Paired (xy (QF s.heap a vs)) us ys:=by
   intro us ys hu p
   induction p with
   | nil=>exact .nil
   | cons f _ ih=>
    refine .cons ?_ (ih λv hv=>hu v (aal _ hv))
    obtain⟨b,o,t1,t2,t3,m,rfl,hb,r⟩:=f
    exact⟨b,o,t1,t2,t3,m,rfl,keep b o (λe=>hu _ aaC (by rw[e])) hb,r⟩
  exact key hna ht
 show wpAny (model prog w) A _ P E (Se s a vs)
 dsimp only
 have hsz:vs.toArray.size=vs.length:=by simp
 by_cases h2:vs.toArray.size<2
 ·rw[aax h2,aax h2]
  refine UU (aay ?_)
  rw[StateT.run_pure]
  refine UU (aay ?_)
  dsimp only
  refine UU (seqEpoch_at W5 rfl ?_)
  refine UU (listUpdate_at W5 rfl ?_ (hsz2:=by rw[Array.size_map];show(pairsOf vs).size<=_;rw[pairsOf_size,acG];omega))
  simp only [acA,aa9,aca]
  have fin:=h (List.range vs.length).toArray (by unfold Pm;rw[List.toList_toArray]) λi j Fw hj=>by
   have:i=j:=by omega
   rw[this];exact XU _
  have e:List.toArray ((List.range vs.length).toArray.toList.map λi=>vs.getD i Value.none)=(arrOf (SortSt.mk' general' (vs.toArray.zip vs.toArray) #[] 7 none)).map (·.2):=by
   have e2:((List.range vs.length).map λi=>vs.getD i Value.none)=vs:=by
    match vs,hsz,h2 with
    | [],_,_=>rfl
    | [_],_,_=>rfl
    | _::_::_,_,h2=>simp at h2;omega
   rw[List.toList_toArray,e2]
   show vs.toArray=(vs.toArray.zip vs.toArray).map (·.2)
   apply Array.toList_inj.mp
   rw[Array.toList_map,Array.toList_zip]
   exact(List.map_snd_zip (XU _)).symm
  rw[e] at fin
  exact aay fin
 ·rw[aav h2,aav h2]
  have WK:2<=vs.length:=by omega
  obtain⟨fs,wy,Jw,hft⟩:∃fs,KatTups (QF s.heap a vs) vs fs/\fs.length=vs.length/\∀v∈fs,∃x t,v=Value.str x t:=by
   have key:∀{hh:Heap} {us:List Value} {ys:List T3},Paired (xy hh) us ys->∃fs,KatTups hh us fs/\fs.length=us.length/\∀v∈fs,∃x t,v=Value.str x t:=by
    intro hh us ys p
    induction p with
    | nil=>exact⟨[],.nil,rfl,λv hv=>by cases hv⟩
    | @cons v x _ _ f _ ih=>
     obtain⟨fs,g1,g2,g3⟩:=ih
     obtain⟨b,o,t1,t2,t3,m,rfl,hb,hc,hd⟩:=f
     refine⟨.str x.1 t1::fs,.cons hb hc hd (by simp) g1,by rw[aah,aah,g2],λv hv=>?_⟩
     rcases aag.mp hv with e|hv
     ·exact⟨_,_,e⟩
     ·exact g3 v hv
   exact key G8
  refine UU (kat_kind (s:=(Se s a vs)) (T:=.type "str") wy (by omega) (λv hv=>?_) (by decide) ?_)
  ·obtain⟨x,t,rfl⟩:=hft v hv
   exact λA Q E s _ q=>aay q
  ·have ZO:∀i j C,i<vs.length->j<vs.length->C (decide (Jg ts i<Jg ts j)) (Se s a vs)->kas_ask prog w A (tuples' true) vs i j C (Se s a vs):=λi j C hi hj hC=>by
    have gi:vs[i]?=some vs[i]:=UQ hi
    have gj:vs[j]?=some vs[j]:=UQ hj
    have hg:∀{us:List Value} {ys:List T3} {hh:Heap},Paired (xy hh) us ys->∀{i:Nat} {v:Value},us[i]?=some v->∃y,ys[i]?=some y/\xy hh v y:=by
     intro us ys hh p
     induction p with
     | nil=>intro i v h;simp at h
     | cons f t ih=>
      intro i v h
      cases i with
      | zero=>rw[List.getElem?_cons_zero] at h;cases h;exact⟨_,rfl,f⟩
      | succ i=>rw[List.getElem?_cons_succ] at h;exact ih h
    obtain⟨x,hx,tx⟩:=hg G8 gi
    obtain⟨y,hy,ty⟩:=hg G8 gj
    rw[Lr hx hy] at hC
    unfold kas_ask
    rw[show vs.getD i Value.none=vs[i] by simp[List.getD,gi],show vs.getD j Value.none=vs[j] by simp[List.getD,gj]]
    exact Q2 tx ty hC
   refine UU (abJ (kat_run (ks:=vs) (vs:=vs) (Q:=λyJ s'=>∃p:Array Nat,Pm vs.length p/\Je (Jg ts) p vs.length/\arrOf yJ=p.map (kas_item (vs.toArray.zip vs.toArray))/\failedOf yJ=none/\s'=(Se s a vs))
    (G:=λp s'=>(Pm vs.length p/\Je (Jg ts) p vs.length)/\s'=(Se s a vs))
    rfl WK W4 (λp yJ s' a1 a2 a3 a4=>⟨p,a4.1.1,a4.1.2,a2,a3,a4.2⟩) (Rn.wp ZO (NQ (k:=Jg ts) (by omega)) λp hp=>⟨hp,rfl⟩)) ?_ λ_ _ e=>e)
   rintro⟨⟨⟩,yJ⟩ s' ⟨p,hp,hs,har,hf,rfl⟩
   dsimp only
   have ZP:=kat_snds (ks:=vs) (vs:=vs) rfl har
   rw[ZP]
   have hsz2:(List.toArray (p.toList.map λi=>vs.getD i Value.none)).size=vs.length:=by rw[aaz,O4,aa3,hp.size]
   refine UU (seqEpoch_at W5 rfl ?_)
   refine UU (listUpdate_at W5 rfl ?_ (hsz2:=by rw[hsz2,acG];omega))
   rw[hf]
   simp only [acA,aa9,aca]
   exact aay (h p hp hs)
theorem GW{l:Addr}{vs:List Value}{ts:List T3}{Q:Qqq}(hl:s.heap.IsList l vs.toArray)(ht:Paired (xy s.heap) vs ts)(W4:vs.length<64)
  (h:∀p:Array Nat,Pm vs.length p->Je (Jg ts) p vs.length->Q (.ref (s.heap.objs.size+1)) {s with heap:=sortedAll s.heap vs (List.toArray (p.toList.map λi=>vs.getD i Value.none))}) :
  wpAny (model prog w) A (call (.builtin "sorted") [.ref l]) Q E s:=by
 refine Calls.call_function_entry kind_sorted plain_sorted entry_sorted (args_sorted1 _) ?_
 unfold Builtin.«sorted»
 refine UU (m:=checkCount "sorted" 1 1 _) (aay ?_)
 refine UU (collect_list hl ?_ (by rw[acG];omega))
 refine UU (wpAny_newList ?_ (by rw[acG];omega))
 have hsz:((s.heap.push (seqObj "list" #[] 0)).update s.heap.objs.size (Obj.mapSeq (·++vs.toArray))).objs.size=s.heap.objs.size+1:=by
  rw[Heap.size_update,size_push']
 have Wl:(Wi s.heap vs).get? (s.heap.objs.size+1)=some (seqObj "list" vs.toArray 0):=by
  rw[<-hsz];exact aaN _ rfl
 have keep:∀b o,s.heap.get? b=some o->(Wi s.heap vs).get? b=some o:=λb o q=>by
  have j3:b<s.heap.objs.size:=aaJ q
  rw[ach _ _ _ (by rw[hsz];exact aa0 (Nat.lt_succ_of_lt j3)),Heap.get?_update_ne _ _ _ _ (aa0 j3),ach _ _ _ (aa0 j3)]
  exact q
 have key:∀{us:List Value} {ys:List T3},Paired (xy s.heap) us ys->Paired (xy (Wi s.heap vs)) us ys/\∀v∈us,v≠.ref (s.heap.objs.size+1):=by
  intro us ys p
  induction p with
  | nil=>exact⟨.nil,λv hv=>by cases hv⟩
  | cons f _ ih=>
   obtain⟨b,o,t1,t2,t3,m,rfl,hb,r⟩:=f
   refine⟨.cons ⟨b,o,t1,t2,t3,m,rfl,keep b o hb,r⟩ ih.1,λv hv=>?_⟩
   rcases aag.mp hv with e|hv
   ·intro e'
    rw[e] at e'
    cases e'
    exact absurd (aaJ hb) (Nat.not_lt.mpr (Nat.le_succ _))
   ·exact ih.2 v hv
 obtain⟨k1,k2⟩:=key ht
 show wpAny _ _ _ _ _ {s with heap:=Wi s.heap vs}
 rw[hsz]
 refine UU (abS (ab9 slot_list_sort ⟨_,Wl,rfl⟩ entry_list_sort (Bs Wl k1 k2 W4 λp a1 a2=>⟨_,rfl,?_⟩) (args_list_sort _)))
 exact aay ⟨_,rfl,h p a1 a2⟩
end
def OP(H:Hp)(v:V)(x:T3):Prop:=∃a,v=.ref a/\H a=some (.tup [.str x.1,.int x.2.1,.str x.2.2])
section
variable{X:Cx}
theorem HN{c_:Qqz}{Z:St}{H:Hp}{s:Shared}(I:Inv X c_ Z H s):∀{ys:List V} {ts:List T3} {us:List Value},Paired (OP H) ys ts->Vals ys us->Paired (xy s.heap) us ts
 | _,_,_,.nil,.nil=>.nil
 | _,_,_,.cons f p,.cons r q=>by
  refine .cons ?_ (HN I p q)
  obtain⟨a,rfl,h⟩:=f
  cases r
  obtain⟨hE,rv,pl,_⟩:=I.tuple (ox.of h)
  obtain⟨o,ho,hc,n,hd⟩:=pl
  cases rv with
  | cons r1 rv=>
   cases rv with
   | cons r2 rv=>
    cases rv with
    | cons r3 rv=>
     cases rv
     obtain⟨t1,rfl⟩:=r1
     obtain⟨t2,rfl⟩:=r2
     obtain⟨t3,rfl⟩:=r3
     exact⟨a,o,t1,t2,t3,n,rfl,ho,hc,hd⟩
theorem Jh{Z:Type}(d:Z){l:List Z}{p:Array Nat}(hp:Pm l.length p):(p.toList.map λi=>l.getD i d).Perm l:=by
 have e:(List.range l.length).map (λi=>l.getD i d)=l:=by
  refine List.ext_getElem? λk=>?_
  rw[aan]
  by_cases h:k<l.length
  ·rw[aci h,UQ h]
   simp[List.getD,UQ h]
  ·rw[List.getElem?_eq_none (by rw[abQ];omega),List.getElem?_eq_none (by omega)]
   rfl
 have:=List.Perm.map (λi=>l.getD i d) hp
 rwa [e] at this
theorem sV{Z Y:Type}{F:Z->Y->Prop}(da:Z)(db:Y){xs:List Z}{ys:List Y}(p:Paired F xs ys):∀(l:List Nat),(∀i∈l,i<xs.length)->Paired F (l.map λi=>xs.getD i da) (l.map λi=>ys.getD i db)
 | [],_=>.nil
 | i::r,h=>by
  refine .cons ?_ (sV da db p r λj hj=>h j (aal _ hj))
  have hi:=h i aaC
  have key:∀{xs:List Z} {ys:List Y},Paired F xs ys->∀i,i<xs.length->F (xs.getD i da) (ys.getD i db):=by
   intro xs ys p
   induction p with
   | nil=>intro i hi;exact absurd hi (Nat.not_lt_zero _)
   | cons f t ih=>
    intro i hi
    cases i with
    | zero=>exact f
    | succ i=>exact ih i (Nat.lt_of_succ_lt_succ hi)
  exact key p i hi
theorem AD:uV X (.builtin "sorted") (λxs H Q=>∃p ys ts,xs=[.ref p]/\gC X.K H p ys/\Paired (OP H) ys ts/\ys.length<64/\∀l zs H_,H l=none->Paired (OP H) zs H_->H_.Perm ts->H_.Pairwise (λx y=>Ck y x=false)->zs.length=ys.length->Q (.ref l) (upd H l (.lst zs))):=by
 intro c_ s Z H xs us Q I r h
 obtain⟨a,ys,ts,rfl,hq,hp,W4,q⟩:=h
 obtain⟨u,rfl,ru⟩:=vals1 r
 cases (show u=Value.ref a from ru)
 obtain⟨hE,rv,pp,hz⟩:=I.list hq
 have hlen:=rv.length
 have j3:=aau hp
 refine GW (vs:=hE) pp.isList (HN I hp rv) (by omega) λp Ph hs=>?_
 have qR:∀i∈p.toList,i<hE.length:=λi hi=>abr.mp (List.Perm.subset Ph hi)
 have hsz:(p.toList.map λi=>ys.getD i V.jc).length=ys.length:=by rw[O4,aa3,Ph.size,hlen]
 obtain⟨c,hc⟩:=sortedAll_at s.heap hE (List.toArray (p.toList.map λi=>hE.getD i Value.none))
 have pm3:Pm ts.length p:=by rw[<-j3,hlen];exact Ph
 refine⟨.ref (s.heap.objs.size+1),upd H (s.heap.objs.size+1) (.lst (p.toList.map λi=>ys.getD i V.jc)),I.laid (t':=s.toks) (λb o e=>sortedAll_old e) (Nat.le_succ _) (show i0 X.prog X.w _ _ _ (.lst (p.toList.map λi=>ys.getD i V.jc)) from ⟨by rw[hsz];exact hz,p.toList.map (λi=>hE.getD i Value.none),c,sV V.jc Value.none rv _ (λi hi=>by rw[hlen];exact qR i hi),hc⟩),rfl,?_⟩
 refine q _ _ (p.toList.map λi=>ts.getD i (Str.empty,0,Str.empty)) (I.iK.fresh (Nat.le_succ _)) (sV _ _ hp _ λi hi=>by rw[hlen];exact qR i hi) (Jh _ pm3) ?_ hsz
 rw[ab3,aa7]
 intro i j hi hj Fw
 rw[aa3,Ph.size] at hi hj
 have g:∀k (hk:k<p.toList.length),p.getD k 0=p.toList[k]:=λk hk=>by
  have hk':k<p.size:=by rwa [aa3] at hk
  simp[Array.getD,hk']
 have hle:=hs i j (acI Fw) hj
 unfold kr at hle
 rw[g i (by rw[aa3,Ph.size];exact hi),g j (by rw[aa3,Ph.size];exact hj)] at hle
 have gt:∀k,k∈p.toList->ts[k]?=some (ts.getD k (Str.empty,0,Str.empty)):=λk hk=>by
  have:=qR k hk
  have U3:k<ts.length:=by omega
  simp[List.getD,UQ U3]
 rw[<-Lr (gt _ (acm _)) (gt _ (acm _))]
 exact aap (by omega)
end
theorem Ji{x y:List T3}(hp:x.Perm y)(hx:x.Pairwise λa b=>Ck b a=false)(hy:y.Pairwise λa b=>Ck b a=false):x=y:=
 List.Perm.eq_of_pairwise (le:=λa b=>Ck b a=false) (λa b _ _ h1 h2=>HM h2 h1) hx hy hp
end L2
namespace PM
open PySem (Str)
open Dk
theorem Fm{D:Dk}{s:Str}{p:Pt}(hp:p.nm∉D.names):D.made.filter (λq=>decide (q.nm∈(D.keep s p).held s))=D.jQ s:=by
 unfold jQ
 refine List.filter_congr λq hq=>?_
 rw[decide_eq_decide]
 show q.nm∈(if s=s then D.held s++[p.nm] else D.held s)↔_
 rw[aax rfl,aak,XS]
 exact⟨λz=>z.resolve_right λe=>hp (e▸aae hq),.inl⟩
theorem wd{D:Dk}{s:Str}{p:Pt}(hp:p.nm∉D.names):(D.keep s p).jQ s=D.jQ s++[p]:=by
 rw[<-Fm (s:=s) hp]
 unfold jQ
 show(D.made++[p]).filter _=_
 rw[aaH]
 congr 1
 have:decide (p.nm∈(D.keep s p).held s)=true:=by
  rw[aaS]
  show p.nm∈(if s=s then D.held s++[p.nm] else D.held s)
  rw[aax rfl];simp
 rw[ab8,aax this];rfl
theorem Ls{D:Dk}{s:Str}{p:Pt}(hp:p.nm∉D.names):(D.keep s p).has s=D.has s++[p.nm]:=by
 rw[qx,qx,wd hp,aaG];rfl
theorem xA{ps:List Pt}{p:Pt}(ho:p.other=none):live (ps++[p])=live ps++[p]:=by
 unfold live
 rw[List.reverse_append]
 show(nq (p::ps.reverse) []).reverse=_
 rw[show nq (p::ps.reverse) []=if p.nm∈([]:List Str) then nq ps.reverse [] else p::nq ps.reverse (match p.other with|some o=>o::[]|none=>[]) from rfl,aav (by simp),ho,acB]
theorem NT{D:Dk}(I:Inv D){p:Pt}(hp:p∈D.made){n:Nm}(hn:n∈p.jt):n.1∈D.names:=by
 have h1:n.1∈ik p:=aaI _ (aae (aao.mpr ⟨aaI _ hn,XZ (I.KN p hp n hn)⟩))
 obtain⟨i,hi⟩:=aaT.mp hp
 have h2:=I.before i p hi n.1 ((I.need p hp n.1).mpr ⟨n.1,h1,.inl rfl⟩)
 obtain⟨q,hq,e⟩:=List.mem_map.mp h2
 exact e▸aae (List.mem_of_mem_take hq)
theorem Jj{lt:Nm->Nm->Prop}{rk:Nm->Nat}(hr:∀m n,lt m n->rk m<rk n){ls R:List Ln}(nd:(ls.map (·.nm)).Nodup)(hp:R.Perm ls)(hc:R.Pairwise λa b=>lt a.nm b.nm):rowOf lt ls=R:=by
 have pm:=zS hr nd
 refine List.Perm.eq_of_pairwise (le:=λa b=>lt a.nm b.nm) (λa b _ _ h1 h2=>?_) ?_ hc (pm.trans hp.symm)
 ·have:=hr _ _ h1
  have:=hr _ _ h2
  omega
 ·have LU:(rowOf lt ls).Pairwise λa b=>a.nm≠b.nm:=ab3.mp ((pm.map _).nodup_iff.mpr nd)
  have tot:∀a∈R,∀b∈R,a.nm≠b.nm->lt a.nm b.nm\/lt b.nm a.nm:=λa ha b hb ne=>by
   obtain⟨i,hi,rfl⟩:=List.mem_iff_getElem.mp ha
   obtain⟨j,hj,rfl⟩:=List.mem_iff_getElem.mp hb
   have hp:=aa7.mp hc
   rcases Nat.lt_trichotomy i j with z|z|z
   ·exact .inl (hp i j hi hj z)
   ·subst z;exact absurd rfl ne
   ·exact .inr (hp j i hj hi z)
  refine((ve hr nd).and LU).imp_of_mem λha hb h=>?_
  exact(tot _ ((pm.trans hp.symm).subset ha) _ ((pm.trans hp.symm).subset hb) h.2).resolve_right h.1
open Classical in
theorem GX{lt:Nm->Nm->Prop}{row:List Ln}(h:row.Pairwise λa b=>lt a.nm b.nm):jb lt row=[]:=by
 unfold jb
 rw[List.flatMap_eq_nil_iff]
 intro i hi
 rw[List.map_eq_nil_iff,List.filter_eq_nil_iff]
 intro j hj z
 have z:¬ltAt lt row i j:=aaA z
 apply z
 have hi:=abr.mp hi
 obtain⟨k,hk,e⟩:=List.mem_range'.mp hj
 have hj:j<row.length:=by omega
 exact⟨row[i],row[j],UQ hi,UQ hj,aa7.mp h i j hi hj (by omega)⟩
noncomputable def yZ(row:List Ln):List (Nat×Nat)->Nat->Option Ln
 | [],_=>none
 | q::r,s=>if q.2=s then row[q.1]? else yZ row r s
theorem Uj(row:List Ln)(qs:List (Nat×Nat)):l5 row qs=λs=>(yZ row qs s).map (·.nm):=by
 funext s
 induction qs with
 | nil=>rfl
 | cons q r ih=>
  unfold l5 yZ
  split
  ·rfl
  ·exact ih
theorem AE{row:List Ln}{qs:List (Nat×Nat)}{s:Nat}{l:Ln}(h:yZ row qs s=some l):∃q∈qs,q.2=s/\row[q.1]?=some l:=by
 induction qs with
 | nil=>cases h
 | cons q r ih=>
  unfold yZ at h
  by_cases e:q.2=s
  ·rw[aax e] at h
   exact⟨q,aaC,e,h⟩
  ·rw[aav e] at h
   obtain⟨q',hq,z⟩:=ih h
   exact⟨q',aal _ hq,z⟩
theorem OQ{row:List Ln}{m:Nat}:∀{qs:List (Nat×Nat)},EG row.length m qs->∀q∈qs,yZ row qs q.2=row[q.1]?
 | [],_,q,hq=>by cases hq
 | q'::r,h,q,hq=>by
  have hr:EG row.length m r:=⟨(List.pairwise_cons.mp h.1).2,λx hx=>h.2 x (aal _ hx)⟩
  unfold yZ
  rcases aag.mp hq with e|hq
  ·rw[e,aax rfl]
  ·have:=(List.pairwise_cons.mp h.1).1 q hq
   rw[aav (by omega)]
   exact OQ hr q hq
section
variable(p:Str)(ln:Nat->Option Ln)
noncomputable def mg:Nat->Nat->Option Nm->List Str->List Ln
 | _,_,_,[]=>[]
 | i,j,u,t::r=>match ln i with
  | some l=>l::mg (i+1) j (some l.nm) r
  | none=>⟨(p,j),t,u,Hv (λs=>(ln s).map (·.nm)) r.length i⟩::mg (i+1) (j+1) (some (p,j)) r
noncomputable abbrev NU(i j:Nat)(u:Option Nm)(r:List Str):List Ln:=qt p (λs=>(ln s).map (·.nm)) i j u r
variable{p ln}
theorem we{i j:Nat}{u:Option Nm}{t:Str}{r:List Str}{l:Ln}(h:ln i=some l):mg p ln i j u (t::r)=l::mg p ln (i+1) j (some l.nm) r/\NU p ln i j u (t::r)=NU p ln (i+1) j (some l.nm) r:=by
 constructor
 ·rw[mg,h]
 ·unfold NU
  rw[qt]
  simp only [h,ab4]
theorem wg{i j:Nat}{u:Option Nm}{t:Str}{r:List Str}(h:ln i=none):mg p ln i j u (t::r)=⟨(p,j),t,u,Hv (λs=>(ln s).map (·.nm)) r.length i⟩::mg p ln (i+1) (j+1) (some (p,j)) r/\NU p ln i j u (t::r)=⟨(p,j),t,u,Hv (λs=>(ln s).map (·.nm)) r.length i⟩::NU p ln (i+1) (j+1) (some (p,j)) r:=by
 constructor
 ·rw[mg,h]
 ·unfold NU
  rw[qt]
  simp only [h,Option.map_none]
theorem Lu:∀(r:List Str)(i j:Nat)(u:Option Nm),(∀k l,ln (i+k)=some l->k<r.length->r[k]?=some l.tx)->(mg p ln i j u r).map (·.tx)=r
 | [],_,_,_,_=>rfl
 | t::r,i,j,u,h=>by
  have hr:∀k l,ln (i+1+k)=some l->k<r.length->r[k]?=some l.tx:=λk l e hk=>by
   have:=h (k+1) l (by rw[<-e];congr 1;omega) (by rw[aah];omega)
   rwa [List.getElem?_cons_succ] at this
  cases e:ln i with
  | some l=>
   rw[(we e).1,aaK,Lu r (i+1) j _ hr]
   have:=h 0 l e (by rw[aah];omega)
   rw[List.getElem?_cons_zero] at this
   rw[<-aaE this]
  | none=>rw[(wg e).1,aaK,Lu r (i+1) (j+1) _ hr]
theorem GY{l:Ln}:∀(r:List Str)(i j:Nat)(u:Option Nm),l∈mg p ln i j u r↔(∃k,k<r.length/\ln (i+k)=some l)\/l∈NU p ln i j u r
 | [],_,_,_=>⟨λh=>(by cases h),λh=>h.elim (λ⟨k,hk,_⟩=>absurd hk (Nat.not_lt_zero _)) λh=>(by cases h)⟩
 | t::r,i,j,u=>by
  have sh:(∃k,k<(t::r).length/\ln (i+k)=some l)↔ln i=some l\/∃k,k<r.length/\ln (i+1+k)=some l:=by
   constructor
   ·rintro⟨k,hk,e⟩
    cases k with
    | zero=>exact .inl e
    | succ k=>exact .inr ⟨k,by rw[aah] at hk;omega,by rw[<-e];congr 1;omega⟩
   ·rintro(e|⟨k,hk,e⟩)
    ·exact⟨0,by rw[aah];omega,e⟩
    ·exact⟨k+1,by rw[aah];omega,by rw[<-e];congr 1;omega⟩
  rw[sh]
  cases e:ln i with
  | some l'=>
   rw[(we e).1,(we e).2,aag,GY r (i+1) j,Option.some_inj,or_assoc]
   exact⟨λh=>h.imp (λz=>z.symm) id,λh=>h.imp (λz=>z.symm) id⟩
  | none=>
   rw[(wg e).1,(wg e).2,aag,aag,GY r (i+1) (j+1)]
   exact⟨λh=>h.elim (λz=>.inr (.inl z)) λz=>z.elim (λz=>.inl (.inr z)) λz=>.inr (.inr z),λh=>h.elim (λz=>z.elim (λz=>(by cases z)) λz=>.inr (.inl z)) λz=>z.elim .inl λz=>.inr (.inr z)⟩
theorem AF{LN:List Ln}(hk:∀s t a b,ln s=some a->ln t=some b->s<t->Ah LN a.nm b.nm):∀(r:List Str)(i j:Nat)(u:Option Nm),(∀l∈NU p ln i j u r,l∈LN)->
  (∀m,u=some m->(∃s l,s<i/\ln s=some l/\l.nm=m)\/∃l'∈LN,l'.nm=m/\∀b,ln i=some b->r≠[]->l'.lo=some b.nm)->
  (∀l∈mg p ln i j u r,∀m,u=some m->Ah LN m l.nm)/\(mg p ln i j u r).Pairwise λa b=>Ah LN a.nm b.nm
 | [],_,_,_,_,_=>⟨λl hl=>(by cases hl),List.Pairwise.nil⟩
 | t::r,i,j,u,hl,hu=>by
  cases e:ln i with
  | some l=>
   rw[(we e).2] at hl
   rw[(we e).1]
   have hd:∀m,u=some m->Ah LN m l.nm:=λm hm=>by
    rcases hu m hm with⟨s,l',hs,h1,rfl⟩|⟨l',h1,rfl,h2⟩
    ·exact hk s i l' l h1 e hs
    ·exact .one ⟨l',h1,.inr ⟨rfl,h2 l e (by simp)⟩⟩
   obtain⟨h1,h2⟩:=AF hk r (i+1) j (some l.nm) hl λm hm=>.inl ⟨i,l,by omega,e,aaE hm⟩
   refine⟨λo ho m hm=>?_,List.Pairwise.cons (λo ho=>h1 o ho _ rfl) h2⟩
   rcases aag.mp ho with rfl|ho
   ·exact hd m hm
   ·exact(hd m hm).trans (h1 o ho _ rfl)
  | none=>
   rw[(wg e).2] at hl
   rw[(wg e).1]
   have hn:=hl _ aaC
   have hd:∀m,u=some m->Ah LN m (p,j):=λm hm=>.one ⟨_,hn,.inl ⟨rfl,hm⟩⟩
   obtain⟨h1,h2⟩:=AF hk r (i+1) (j+1) (some (p,j)) (λo ho=>hl o (aal _ ho)) λm hm=>.inr ⟨_,hn,aaE hm,λb hb hr=>by
    show Hv _ r.length i=some b.nm
    cases r with
    | nil=>exact absurd rfl hr
    | cons t' r'=>
     rw[aah,Hv]
     simp only [hb,ab4]⟩
   refine⟨λo ho m hm=>?_,List.Pairwise.cons (λo ho=>h1 o ho _ rfl) h2⟩
   rcases aag.mp ho with rfl|ho
   ·exact hd m hm
   ·exact(hd m hm).trans (h1 o ho _ rfl)
end
noncomputable def tr(l:Ln):Str×Nat×Str:=(l.nm.1,l.nm.2,l.tx)
section
variable{D:Dk}{s f x:Str}
structure Yj(D D':Dk)(s f x:Str)(texts:List Str):Prop where
 tx:(D'.row s f).map (·.tx)=texts
 qu:D'.jR s f=[]
theorem Fn(I:Inv D)(hs:s∈D.stores)(fresh:x∉D.names)(hq:D.jR s f=[])(texts:List Str):Yj D (D.keep s (jW x f (D.row s f) texts)) s f x texts:=by
 have I2:=I.record hs fresh hq texts
 have rise:=pH ((D.row s f).map (·.tx)) texts
 rw[O4] at rise
 generalize eqs:K01.kept ((D.row s f).map (·.tx)) texts=qs at rise
 have rel:∀q∈qs,∃l,(D.row s f)[q.1]?=some l/\texts[q.2]?=some l.tx:=by
  have g:=K01.BV ((D.row s f).map (·.tx)) texts
  rw[eqs] at g
  have key:∀{i j qs},K01.Good ((D.row s f).map (·.tx)) texts i j qs->∀q∈qs,∃l,(D.row s f)[q.1]?=some l/\texts[q.2]?=some l.tx:=by
   intro i j qs g
   induction g with
   | nil=>intro q hq;cases hq
   | @cons i j p q r h1 h2 a e1 e2 h3 t ih=>
    intro z hz
    rcases aag.mp hz with rfl|hz
    ·rw[aan] at e1
     obtain⟨l,hl,e⟩:=Option.map_eq_some_iff.mp e1
     exact⟨l,hl,by rw[e];exact e2⟩
    ·exact ih z hz
  exact key g
 have rowL:∀l∈D.row s f,l∈gm (D.jQ s) f:=λl hl=>(j6 _ f).subset ((I.kF s f).subset hl)
 have old:∀l∈D.row s f,l.nm.1≠x:=λl hl e=>by
  obtain⟨p,hp,_,h3⟩:=I.tj hl
  exact fresh (by rw[<-e,me (I.DZ p (aao.mp hp).1) (aae h3)];exact aae (aao.mp hp).1)
 generalize ep:jW x f (D.row s f) texts=p at I2
 have pnm:p.nm=x:=by rw[<-ep];rfl
 have ppu:p.ix=NU x (yZ (D.row s f) qs) 0 0 none texts:=by
  rw[<-ep]
  show kj x texts (l5 (D.row s f) (K01.kept ((D.row s f).map (·.tx)) texts))=_
  rw[eqs,Uj];rfl
 have ZQ:p.jt=((D.row s f).filter λl=>l.nm∉qr (D.row s f) qs).map (·.nm):=by
  rw[<-ep,<-eqs];rfl
 have pfi:p.file=some f:=by rw[<-ep];rfl
 have pot:p.other=none:=by rw[<-ep];rfl
 have VH:∀l∈p.ix,l.nm.1=x:=λl hl=>by
  have h:=I2.DZ p (by show p∈D.made++[p];simp)
  rw[<-pnm]
  exact me h (aae hl)
 have e2:(D.keep s p).jQ s=D.jQ s++[p]:=wd (by rw[pnm];exact fresh)
 have lp:gm (D.jQ s++[p]) f=gm (D.jQ s) f++p.ix:=by
  unfold gm
  rw[aaH,abc,ab8,aax (by rw[aaS];exact pfi)]
  simp
 let R:=mg x (yZ (D.row s f) qs) 0 0 none texts
 have lnR:∀k l,yZ (D.row s f) qs k=some l->l∈D.row s f:=λk l h=>by
  obtain⟨q,_,_,h2⟩:=AE h
  exact XY h2
 have ch:R.Pairwise λa b=>Ah (gm (D.jQ s) f++p.ix) a.nm b.nm:=by
  have c0:=Inv.chain hq
  refine(AF (LN:=gm (D.jQ s) f++p.ix) (λa b l l' h1 h2 G3=>?_) texts 0 0 none (λl hl=>aaW _ (by rw[ppu];exact hl)) (λm h=>by cases h)).2
  obtain⟨q1,m1,e1,r1⟩:=AE h1
  obtain⟨q2,m2,e2,r2⟩:=AE h2
  have j3:q1.1<q2.1:=by
   obtain⟨i,hi,ei⟩:=List.mem_iff_getElem.mp m1
   obtain⟨j,hj,ej⟩:=List.mem_iff_getElem.mp m2
   have hp:=aa7.mp rise.1
   rcases Nat.lt_trichotomy i j with z|z|z
   ·have:=hp i j hi hj z;rw[ei,ej] at this;exact this.1
   ·subst z;rw[ei] at ej;subst ej;omega
   ·have:=hp j i hj hi z;rw[ei,ej] at this;omega
  obtain⟨g1,w1⟩:=List.getElem?_eq_some_iff.mp r1
  obtain⟨g2,w2⟩:=List.getElem?_eq_some_iff.mp r2
  have:=aa7.mp c0 _ _ g1 g2 j3
  rw[w1,w2] at this
  exact this.mono λl hl=>aaI _ hl
 have left:∀l∈D.row s f,l.nm∈qr (D.row s f) qs↔∃k,k<texts.length/\yZ (D.row s f) qs (0+k)=some l:=λl hl=>by
  have nd:((D.row s f).map (·.nm)).Nodup:=((I.kF s f).map _).nodup_iff.mpr (I.wX s f)
  constructor
  ·intro h
   obtain⟨q,hq,e⟩:=abw.mp h
   obtain⟨l',yK,e⟩:=Option.map_eq_some_iff.mp e
   have:l'=l:=by
    obtain⟨i,hi,ei⟩:=List.mem_iff_getElem.mp (XY yK)
    obtain⟨j,hj,ej⟩:=List.mem_iff_getElem.mp hl
    have:=(List.getElem_inj (i:=i) (j:=j) (h₀:=by rw[O4];exact hi) (h₁:=by rw[O4];exact hj) nd).mp (by rw[List.getElem_map,List.getElem_map,ei,ej];exact e)
    subst this
    rw[<-ei,<-ej]
   subst this
   exact⟨q.2,(rise.2 q hq).2,by rw[Nat.zero_add,OQ rise q hq];exact yK⟩
  ·rintro⟨k,_,h⟩
   obtain⟨q,hq,_,h2⟩:=AE h
   exact abw.mpr ⟨q,hq,by rw[h2];rfl⟩
 have mem:∀l,l∈R↔l∈jj (D.jQ s++[p]) f:=λl=>by
  show l∈mg x (yZ (D.row s f) qs) 0 0 none texts↔_
  rw[GY]
  unfold jj
  rw[xA pot]
  have lpl:gm (live (D.jQ s)++[p]) f=gm (live (D.jQ s)) f++p.ix:=by
   unfold gm
   rw[aaH,abc,ab8,aax (by rw[aaS];exact pfi)]
   simp
  have gl:gone (live (D.jQ s)++[p])=gone (live (D.jQ s))++p.jt:=by
   unfold gone
   rw[abc];simp
  rw[lpl,gl,aao,aak,aaS,aak,<-ppu]
  have L9:∀l,l∈D.row s f↔l∈gm (live (D.jQ s)) f/\l.nm∉gone (live (D.jQ s)):=λl=>by
   rw[(I.kF s f).mem_iff]
   unfold jj
   rw[aao,aaS]
  have Of:∀m∈gone (live (D.jQ s)),m.1≠x:=λm hm e=>by
   obtain⟨q,hq,hn⟩:=abi.mp hm
   exact fresh (e▸NT I (aao.mp ((vb _).subset hq)).1 hn)
  have RP:∀m∈p.jt,m.1≠x:=λm hm=>by
   rw[ZQ] at hm
   obtain⟨l,hl,rfl⟩:=List.mem_map.mp hm
   exact old l (aao.mp hl).1
  constructor
  ·rintro(⟨k,hk,e⟩|h)
   ·have hr:=lnR _ l e
    refine⟨.inl ((L9 l).mp hr).1,λz=>z.elim ((L9 l).mp hr).2 λz=>?_⟩
    rw[ZQ] at z
    obtain⟨l',yK,e'⟩:=List.mem_map.mp z
    exact aaA (aao.mp yK).2 (by rw[e'];exact(left l hr).mpr ⟨k,hk,e⟩)
   ·exact⟨.inr h,λz=>z.elim (λz=>Of _ z (VH l h)) λz=>RP _ z (VH l h)⟩
  ·rintro⟨h|h,z⟩
   ·have hr:=(L9 l).mpr ⟨h,λw=>z (.inl w)⟩
    refine .inl ((left l hr).mp ?_)
    refine Classical.byContradiction λw=>z (.inr ?_)
    rw[ZQ]
    exact aae (aao.mpr ⟨hr,XZ w⟩)
   ·exact .inr h
 obtain⟨rk,LS⟩:=I2.Nc s f
 rw[e2,lp] at LS
 have ndR:R.Nodup:=ch.imp λh e=>by rw[e] at h;exact abu _ (LS.ah h)
 have Rx:=I2.wX s f
 rw[e2] at Rx
 have er:(D.keep s p).row s f=R:=by
  unfold Dk.row
  rw[e2,lp]
  exact Jj (rk:=rk) (λm n h=>LS.ah h) Rx ((List.perm_ext_iff_of_nodup ndR ((ab3.mp Rx).imp λh e=>h (abd _ e))).mpr mem) ch
 refine⟨?_,?_⟩
 ·rw[er]
  refine Lu texts 0 0 none λk l e hk=>?_
  rw[Nat.zero_add] at e
  obtain⟨q,hq,rfl,h2⟩:=AE e
  obtain⟨l',h3,h4⟩:=rel q hq
  rw[h2] at h3
  rw[aaE h3]
  exact h4
 ·unfold Dk.jR
  rw[er,e2,lp]
  exact GX ch
end
section
variable{D:Dk}{s t f f' x:Str}
theorem GZ(I:Inv D){l l':Ln}{o:Str}(h:l∈gm (D.jQ s) f)(h':l'∈gm (D.jQ o) f')(e:l.nm=l'.nm):f=f':=by
 obtain⟨p,hp,hf,hl⟩:=j7.mp h
 obtain⟨p',Si,hf',yK⟩:=j7.mp h'
 have hm:=(aao.mp hp).1
 have Mr:=(aao.mp Si).1
 have:=Nb I.nd hm Mr (by rw[<-me (I.DZ p hm) (aae hl),<-me (I.DZ p' Mr) (aae yK),e])
 subst this
 rw[hf] at hf'
 exact aaE hf'
structure Cg(D:Dk)(s f x:Str)(p:Pt):Prop where
 nm:p.nm=x
 file:p.file=some f
 other:p.other=none
 jt:∀m∈p.jt,m∈(D.row s f).map (·.nm)
theorem Jk(texts:List Str):Cg D s f x (jW x f (D.row s f) texts):=⟨rfl,rfl,rfl,λm hm=>by
 obtain⟨l,hl,rfl⟩:=List.mem_map.mp hm
 exact aae (aao.mp hl).1⟩
theorem Q3{ms:List Nm}(hm:∀m∈ms,m∈(D.row s f).map (·.nm)):Cg D s f x ⟨x,some f,[],ms,none⟩:=⟨rfl,rfl,rfl,hm⟩
theorem Cg.G0{p:Pt}(c:Cg D s f x p)(I:Inv D)(fresh:x∉D.names)(hf:f'≠f):(D.keep s p).row s f'=D.row s f'/\(D.keep s p).jR s f'=D.jR s f':=by
 have e2:(D.keep s p).jQ s=D.jQ s++[p]:=wd (by rw[c.nm];exact fresh)
 have oa:¬p.file=some f':=λe=>by rw[c.file] at e;exact hf (aaE e).symm
 have lp:∀ps:List Pt,gm (ps++[p]) f'=gm ps f':=λps=>by
  unfold gm
  rw[aaH,abc,aai (by rw[aaS];exact oa)]
  simp
 have st:jj (D.jQ s++[p]) f'=jj (D.jQ s) f':=by
  unfold jj
  rw[xA c.other,lp]
  refine List.filter_congr λl hl=>?_
  rw[decide_eq_decide]
  have gl:gone (live (D.jQ s)++[p])=gone (live (D.jQ s))++p.jt:=by
   unfold gone
   rw[abc];simp
  rw[gl,aak]
  refine⟨λh z=>h (.inl z),λh z=>z.elim h λz=>?_⟩
  obtain⟨l',yK,e⟩:=List.mem_map.mp (c.jt _ z)
  have h1:l'∈gm (D.jQ s) f:=(j6 _ f).subset ((I.kF s f).subset yK)
  have h2:l∈gm (D.jQ s) f':=(vc (vb _) f').subset hl
  exact hf (GZ I h2 h1 e.symm)
 have er:(D.keep s p).row s f'=D.row s f':=by
  unfold Dk.row
  rw[e2,lp,st]
 refine⟨er,?_⟩
 unfold Dk.jR
 rw[er,e2,lp]
theorem Lv{p:Pt}(I:Inv D)(ht:t∈D.stores)(oa:t≠s)(fresh:p.nm∉D.names):(D.keep s p).jQ t=D.jQ t:=by
 have hh:(D.keep s p).held t=D.held t:=aav oa
 unfold Dk.jQ
 rw[hh]
 show(D.made++[p]).filter _=_
 rw[aaH,aai (by rw[aaS];exact λz=>fresh (I.lD t ht _ z).1)]
 simp
theorem AG{p:Pt}(I:Inv D)(ht:t∈D.stores)(oa:t≠s)(fresh:p.nm∉D.names):(D.keep s p).has t=D.has t/\∀g,(D.keep s p).row t g=D.row t g/\(D.keep s p).jR t g=D.jR t g:=by
 have e:=Lv I ht oa fresh
 refine⟨by rw[qx,qx,e],λg=>?_⟩
 have er:(D.keep s p).row t g=D.row t g:=by unfold Dk.row;rw[e]
 refine⟨er,?_⟩
 unfold Dk.jR
 rw[er,e]
open Classical in
theorem qc{lt:Nm->Nm->Prop}{row:List Ln}{i j:Nat}:(i,j)∈jb lt row↔i<j/\j<row.length/\¬ltAt lt row i j:=by
 unfold jb
 rw[abi]
 constructor
 ·rintro⟨k,hk,h⟩
  obtain⟨q,hq,e⟩:=List.mem_map.mp h
  cases e
  obtain⟨h1,h2⟩:=aao.mp hq
  obtain⟨m,hm,e⟩:=List.mem_range'.mp h1
  have:=abr.mp hk
  exact⟨by omega,by omega,aaA h2⟩
 ·rintro⟨h1,h2,h3⟩
  exact⟨i,abr.mpr (by omega),List.mem_map.mpr ⟨j,aao.mpr ⟨List.mem_range'.mpr ⟨j-(i+1),by omega,by omega⟩,XZ h3⟩,rfl⟩⟩
theorem Fo(I:Inv D)(hs:s∈D.stores)(fresh:x∉D.names){ms:List Nm}(hm:∀m∈ms,m∈(D.row s f).map (·.nm)):((D.keep s ⟨x,some f,[],ms,none⟩).row s f).Perm ((D.row s f).filter λl=>decide (l.nm∉ms))/\(D.keep s ⟨x,some f,[],ms,none⟩).jR s f=jb (Ah (gm (D.jQ s) f)) ((D.keep s ⟨x,some f,[],ms,none⟩).row s f)/\((D.keep s ⟨x,some f,[],ms,none⟩).row s f).Pairwise λa b=>¬Ah (gm (D.jQ s) f) b.nm a.nm:=by
 have I2:=I.cut (x:=x) hs fresh hm
 have e2:(D.keep s ⟨x,some f,[],ms,none⟩).jQ s=D.jQ s++[⟨x,some f,[],ms,none⟩]:=wd fresh
 have lp:∀ps:List Pt,gm (ps++[⟨x,some f,[],ms,none⟩]) f=gm ps f:=λps=>by
  unfold gm
  rw[aaH,abc]
  simp
 have st:jj (D.jQ s++[⟨x,some f,[],ms,none⟩]) f=(jj (D.jQ s) f).filter λl=>decide (l.nm∉ms):=by
  unfold jj
  rw[xA rfl,lp,List.filter_filter]
  refine List.filter_congr λl hl=>?_
  have gl:gone (live (D.jQ s)++[⟨x,some f,[],ms,none⟩])=gone (live (D.jQ s))++ms:=by
   unfold gone
   rw[abc];simp
  rw[gl,abn,abm,aaS,aaS,aaS,aak]
  exact⟨λh=>⟨λz=>h (.inr z),λz=>h (.inl z)⟩,λh z=>z.elim h.2 h.1⟩
 have pm:=I2.kF s f
 rw[e2,st] at pm
 refine⟨pm.trans ((I.kF s f).symm.filter _),?_,?_⟩
 ·unfold Dk.jR
  rw[e2,lp]
 ·obtain⟨rk,r⟩:=I2.Nc s f
  have:=ve (lt:=Ah (gm ((D.keep s ⟨x,some f,[],ms,none⟩).jQ s) f)) (rk:=rk) (λm n z=>r.ah z) (I2.wX s f)
  unfold Dk.row
  rw[e2,lp] at this ⊢
  exact this
theorem Lw(I:Inv D)(hs:s∈D.stores)(fresh:x∉D.names){ms:List Nm}(hm:∀m∈ms,m∈(D.row s f).map (·.nm)){i j:Nat}(h:(i,j)∈(D.keep s ⟨x,some f,[],ms,none⟩).jR s f):∃a b p q,((D.keep s ⟨x,some f,[],ms,none⟩).row s f)[i]?=some a/\((D.keep s ⟨x,some f,[],ms,none⟩).row s f)[j]?=some b/\(p,q)∈D.jR s f/\((D.row s f)[p]?=some a/\(D.row s f)[q]?=some b\/(D.row s f)[p]?=some b/\(D.row s f)[q]?=some a):=by
 obtain⟨pm,eq,so⟩:=Fo I hs fresh hm
 rw[eq] at h
 obtain⟨h1,h2,h3⟩:=qc.mp h
 generalize (D.keep s ⟨x,some f,[],ms,none⟩).row s f=R at pm so h2 h3
 have hi:i<R.length:=by omega
 have ei:R[i]?=some R[i]:=UQ hi
 have ej:R[j]?=some R[j]:=UQ h2
 have n1:¬Ah (gm (D.jQ s) f) R[i].nm R[j].nm:=λz=>h3 ⟨_,_,ei,ej,z⟩
 have n2:=aa7.mp so i j hi h2 h1
 have ma:R[i]∈D.row s f:=(aao.mp (pm.subset (acm hi))).1
 have mb:R[j]∈D.row s f:=(aao.mp (pm.subset (acm h2))).1
 obtain⟨p,hp⟩:=aaT.mp ma
 obtain⟨q,hq⟩:=aaT.mp mb
 have nJ:=(List.getElem?_eq_some_iff.mp hp).1
 have HZ:=(List.getElem?_eq_some_iff.mp hq).1
 have oa:p≠q:=λe=>by
  subst e
  rw[hp] at hq
  have e:R[i]=R[j]:=aaE hq
  have ndf:(R.map (·.nm)).Nodup:=(pm.map _).nodup_iff.mpr ((aa5.map _).nodup (((I.kF s f).map _).nodup_iff.mpr (I.wX s f)))
  have:=(List.getElem_inj (i:=i) (j:=j) (h₀:=by rw[O4];exact hi) (h₁:=by rw[O4];exact h2) ndf).mp (by rw[List.getElem_map,List.getElem_map,e])
  omega
 have OW:∀{u v:Nat} {y z:Ln},(D.row s f)[u]?=some y->(D.row s f)[v]?=some z->¬Ah (gm (D.jQ s) f) y.nm z.nm->¬ltAt (Ah (gm (D.jQ s) f)) (D.row s f) u v:=λhy hz hn ⟨y',z',g1,g2,g3⟩=>by
  rw[hy] at g1
  rw[hz] at g2
  cases g1
  cases g2
  exact hn g3
 rcases Nat.lt_or_gt_of_ne oa with z|z
 ·exact⟨R[i],R[j],p,q,ei,ej,qc.mpr ⟨z,HZ,OW hp hq n1⟩,.inl ⟨hp,hq⟩⟩
 ·exact⟨R[i],R[j],q,p,ei,ej,qc.mpr ⟨z,nJ,OW hq hp n2⟩,.inr ⟨hq,hp⟩⟩
end
end PM
namespace PK
open PySem L2 PM
open Kp (kI iC)
def One(H0 H:Hp)(row:List Ln)(qu:List (Nat×Nat))(v:V):Prop:=∃u r c qs,v=.ref u/\H0 u=none/\H0 r=none/\H0 c=none/\H u=some (.lst [.ref r,.ref c])/\v_ H r row/\H c=some (.lst qs)/\iC H qu qs
theorem One.same{H0 H H':Hp}{row:List Ln}{qu:List (Nat×Nat)}{v:V}(o:One H0 H row qu v)(s:gh H H'):One H0 H' row qu v:=by
 obtain⟨u,r,c,qs,e,h1,h2,h3,h4,h5,h6,h7⟩:=o
 refine⟨u,r,c,qs,e,h1,h2,h3,s _ _ h4,h5.same s,s _ _ h6,Paired.i4 h7 λq v ⟨a,e,h⟩=>⟨a,e,s _ _ h⟩⟩
section
variable{P:Program}{w:World}{K:Qqy}{mg:Qqx}{base:Heap}{A:Ad}
def Q4(A:Ad):Sp:=λvs H Q _=>∃(d fs:Addr)(D:Dk)(W:Addr->Prop)(s:Str)(files:List Str),vs=[.ref d,.str s,.ref fs]/\ib A H d D W/\Inv D/\Small D.made/\s∈D.stores/\kW s/\H fs=some (.lst (gk files))/\files.length<=1000/\∀p H1 vs,gh H H1->H1 p=none->Paired (λv f=>One H H1 (D.row s f) (D.jR s f) v) vs files->Q (.ref p) (upd H1 p (.lst vs))
theorem NV(T:Txt mg)(O:Ok K mg A):ig P w K mg base mK 7 A.yB A.yC ["desk","store","files"] (Q4 A):=by
 have oe:=(@GL P w K mg base A T O).FP
 have kl:=(@sR P w K mg base A T O).FP
 refine O.tE.f.rA vF λju A0 outer s H vs Q E hr h=>?_
 obtain⟨d,fs,D,W,st,files,rfl,X,I,sm,hs,G9,wy,Jw,q⟩:=h
 obtain⟨Y,y⟩:=id X
 have sz:sizeLine=16777216:=aaP
 refine⟨_,(fR (hG (tS x_ (gb oJ).names [3] rfl (ie (pv 2)) rfl (by decide+kernel) (λ_ _ _ _=>(iu (i:=3) vF.nd rfl (Or.inl rfl))) (λ_ _ _ _=>lM) (λ_ _ _ _=>zb (iB (a_ (xV (pv 0) O.gE O.vS oe hr (a_ (pv 1) (a_ (pv 3) e_))) (a_ (xV (pv 0) O.gE O.mz kl hr (a_ (pv 1) (a_ (pv 3) e_))) e_))))))),?_⟩
 let Jv:=λ(i:Nat) (ys:List V) (Z:St) (H4:Hp)=>∃(v3:Option V),Z=[rr d,rs st,rr fs,v3]/\gh H H4/\Paired (λv f=>One H H4 (D.row st f) (D.jR st f) v) ys (files.take i)
 refine⟨_,rfl,fs,rfl,⟨_,gC.of wy⟩,jE (K:=K) (a:=fs) (xs:=gk files) (by rw[O4];omega) Jv
  ⟨none,rfl,gh.refl _,.nil⟩ (by rintro _ _ _ _ _ ⟨_,_,e,e2⟩;exact⟨gC.of (e _ _ wy),by rw[aau e2,aaO];omega⟩) ?_ ?_⟩
 ·rintro i v ys Z H4 hx ⟨v3,rfl,s4,e2⟩
  obtain⟨f,hf,rfl⟩:=lO hx
  refine⟨_,rfl,d,Y.dx,_,rfl,s4 _ _ y.hd,GJ,_,rfl,_,rfl,d,D,W,st,f,rfl,X.same s4,G9,sm,I,λh=>absurd hs h,λ_ r H5 Od tJ xF=>?_⟩
  have s5:=s4.trans Od
  refine⟨_,rfl,d,Y.dx,_,rfl,s5 _ _ y.hd,sP,_,rfl,_,rfl,d,D,W,st,f,rfl,X.same s5,G9,sm,I,λh=>absurd hs h,λ_ c H6 qs RD SF LW SN=>⟨L2.jM,λu hu=>?_⟩⟩
  have W6:gh H6 (upd H6 u (.lst [.ref r,.ref c])):=(gh.refl H6).new hu
  have s47:=(Od.trans RD).trans W6
  refine⟨_,rfl,s4.trans s47,?_⟩
  rw[take_snoc hf]
  refine ij (Paired.i4 e2 λ_ _ z=>z.same s47) ?_
  exact⟨u,r,c,qs,rfl,((s5.trans RD)).free hu,s4.free tJ,s5.free SF,b_,(xF.same RD).same W6,W6 _ _ LW,Paired.i4 SN λq v ⟨a,e,h⟩=>⟨a,e,W6 _ _ h⟩⟩
 ·rintro ys Z H4 ⟨v3,rfl,s4,e2⟩ p hp
  rw[O4,aaD] at e2
  exact q p H4 ys s4 hp e2
theorem Rep.Uk{H:Hp}{n:Nat}{v:V}{xs:List Dv}(r:Rep H n v (.l xs)):∃a vs m,v=.ref a/\H a=some (.lst vs)/\vs.length=xs.length/\∀(j:Nat) u d,vs[j]?=some u->xs[j]?=some d->Rep H m u d:=by
 cases r with
 | l h hl hr=>exact⟨_,_,_,rfl,h,hl,hr⟩
theorem Rep.Ul{H:Hp}{n:Nat}{v:V}{xs:List Dv}(r:Rep H n v (.t xs)):∃a vs m,v=.ref a/\H a=some (.tup vs)/\vs.length=xs.length/\∀(j:Nat) u d,vs[j]?=some u->xs[j]?=some d->Rep H m u d:=by
 cases r with
 | t h hl hr=>exact⟨_,_,_,rfl,h,hl,hr⟩
theorem Rep.Um{H:Hp}{n:Nat}{v:V}{x:Str}(r:Rep H n v (.s x)):v=.str x:=by cases r;rfl
theorem Rep.Q5{H:Hp}{n:Nat}{v:V}{x:Int}(r:Rep H n v (.i x)):v=.int x:=by cases r;rfl
theorem Rep.Uo{H:Hp}{n:Nat}{v:V}{x z:Str}{k:Int}(r:Rep H n v (.t [.s x,.i k,.s z])):∃a,v=.ref a/\H a=some (.tup [.str x,.int k,.str z]):=by
 obtain⟨a,vs,m,e,h,hl,hr⟩:=r.Ul
 match vs,hl,hr,h with
 | [u1,u2,u3],_,hr,h=>
  have e1:=(hr 0 u1 _ rfl rfl).Um
  have e2:=(hr 1 u2 _ rfl rfl).Q5
  have e3:=(hr 2 u3 _ rfl rfl).Um
  subst e1 e2 e3
  exact⟨a,e,h⟩
theorem Rep.Up{H:Hp}{n:Nat}{v:V}{x z:Int}(r:Rep H n v (.t [.i x,.i z])):∃a,v=.ref a/\H a=some (.tup [.int x,.int z]):=by
 obtain⟨a,vs,m,e,h,hl,hr⟩:=r.Ul
 match vs,hl,hr,h with
 | [u1,u2],_,hr,h=>
  have e1:=(hr 0 u1 _ rfl rfl).Q5
  have e2:=(hr 1 u2 _ rfl rfl).Q5
  subst e1 e2
  exact⟨a,e,h⟩
theorem Lx:W.kitOne K (.type "list") (.type "list")=some true:=aax (by decide)
theorem Ly:W.kitOne K (.type "str") (.type "str")=some true:=aax (by decide)
theorem Lz:W.kitOne K (.type "tuple") (.type "tuple")=some true:=aax (by decide)
theorem Q6:W.kitOne K (.type "int") (.type "int")=some true:=aax (by decide)
theorem Q7:W.kitOne K (.type "int") (.type "bool")=some false:=by kernel_rfl
def NW:Sp:=λvs H Q _=>∃i:Int,vs=[.int i]/\Q (.bl true) H
theorem Fp(T:Txt mg)(O:Ok K mg A):ig P w K mg base mK 1 A.vO A.vP ["found"] NW:=by
 refine O.qK.f.rA Bb λju A outer s H vs Q E hr h=>?_
 obtain⟨i,rfl,q⟩:=h
 refine⟨_,(fR (hG (PJ (gz j2 (by rfl) T.jI abe (a_ (pv 0) (a_ (ow (v:=.ty "int") (by rfl) T.TQ PyProof.Rows.boot_int rfl) e_))) (PH (PL (gz j2 (by rfl) T.jI abe (a_ (pv 0) (a_ (ow (v:=.ty "bool") (by rfl) T.Qu PyProof.Rows.boot_bool rfl) e_)))))))),?_⟩
 refine⟨_,rfl,_,_,_,_,rfl,.int i,Q6,_,rfl,lK ?_⟩
 exact⟨_,rfl,_,_,_,_,rfl,.int i,Q7,_,rfl,q⟩
def Jl:Sp:=λvs H Q _=>∃(v:V)(n:Nat)(row:List Ln),vs=[v]/\Rep H n v (Jd row)/\Q (.bl true) H
theorem yH(T:Txt mg)(O:Ok K mg A):ig P w K mg base mK 2 A.rh A.rj ["row"] Jl:=by
 have nI:=@Fp P w K mg base A T O
 refine O.o6.f.rA pK λju A outer s H vs Q E hr h=>?_
 obtain⟨v,n,row,rfl,rp,q⟩:=h
 obtain⟨p,ps,m,rfl,hp,hl,ZR⟩:=rp.Uk
 refine⟨_,(de (ip (kC (lx (gz j2 (by rfl) T.jI abe (a_ (pv 0) (a_ (ow (v:=.ty "list") (by rfl) T.xl ab7 rfl) e_))))) (fR (hG kc)) hU)
   (de (iD aaM rfl (ie (pv 0)) (tL 1 pK) (de (ip ((pw_or (kC (lx (gz j2 (by rfl) T.jI abe (a_ (pv 1) (a_ (ow (v:=.ty "tuple") (by rfl) T.Hx PyProof.Rows.boot_tuple rfl) e_))))) (pw_or (hX Hk (gz gq (by rfl) T.jx aaL (a_ (pv 1) e_)) f_ (iA _)) (pw_or1 (kC (lx (gz j2 (by rfl) T.jI abe (a_ (jq kT (pv 1) f_ (λ_ _=>rfl)) (a_ (ow (v:=.ty "str") (by rfl) T.OF PyProof.Rows.boot_str rfl) e_)))))))).pt) (fR (hG kc)) hU)
   (fR (ip ((pw_or (kC (lx (og O.qK nI hr (a_ (jq kT (pv 1) f_ (λ_ _=>rfl)) e_)))) (pw_or1 (kC (lx (gz j2 (by rfl) T.jI abe (a_ (jq kT (pv 1) f_ (λ_ _=>rfl)) (a_ (ow (v:=.ty "str") (by rfl) T.OF PyProof.Rows.boot_str rfl) e_))))))).pt) (fR (hG kc)) hU))))
   (fR (hG kc)))),?_⟩
 refine FO ?_;intro _ _
 refine⟨_,rfl,_,_,_,_,rfl,.lst hp,Lx,_,rfl,jg ?_⟩
 let Jv:=λ(i:Nat) (Z:St) (H2:Hp)=>∃v,Z=[rr p,v]/\H2=H
 refine⟨_,rfl,p,rfl,⟨_,gC.of hp⟩,iV (K:=K) (a:=p) (xs:=ps) Jv ⟨none,rfl,rfl⟩ (by rintro _ _ _ _ ⟨_,_,e⟩;rw[e];exact gC.of hp) ?_ ?_⟩
 ·rintro i y Z H2 hi ⟨v,rfl,rfl⟩
  have j3:=(List.getElem?_eq_some_iff.mp hi).1
  rw[hl,O4] at j3
  have tP:(row.map λl=>Dv.t [.s l.nm.1,.i l.nm.2,.s l.tx])[i]?=some (.t [.s row[i].nm.1,.i row[i].nm.2,.s row[i].tx]):=by rw[aan,UQ j3];rfl
  obtain⟨a,rfl,ha⟩:=(ZR i y _ hi tP).Uo
  refine⟨_,rfl,_,_,_,_,rfl,.tup ha,Lz,_,rfl,jg ?_⟩
  refine⟨_,rfl,a,_,rfl,.inr (ox.of ha),rfl,_,rfl,Kg (by rfl) ?_⟩
  refine⟨_,rfl,a,_,_,_,rfl,rfl,ox.of ha,gs (j:=0) rfl rfl,_,_,_,_,rfl,.str _,Ly,_,rfl,jg ?_⟩
  refine⟨_,rfl,a,_,_,_,rfl,rfl,ox.of ha,gs (j:=1) rfl rfl,_,rfl,_,rfl,jg ?_⟩
  refine⟨_,rfl,a,_,_,_,rfl,rfl,ox.of ha,gs (j:=2) rfl rfl,_,_,_,_,rfl,.str _,Ly,_,rfl,jg ?_⟩
  exact⟨_,rfl,rfl⟩
 ·rintro Z H2 ⟨v,rfl,rfl⟩
  exact q
def Fq:Sp:=λvs H Q _=>∃(v:V)(n:Nat)(qs:List (Nat×Nat)),vs=[v]/\Rep H n v (Sd qs)/\Q (.bl true) H
theorem Bt(T:Txt mg)(O:Ok K mg A):ig P w K mg base mK 2 A.oT A.oU ["found"] Fq:=by
 have nI:=@Fp P w K mg base A T O
 refine O.rn.f.rA n5 λju A outer s H vs Q E hr h=>?_
 obtain⟨v,n,row,rfl,rp,q⟩:=h
 obtain⟨p,ps,m,rfl,hp,hl,ZR⟩:=rp.Uk
 refine⟨_,(de (ip (kC (lx (gz j2 (by rfl) T.jI abe (a_ (pv 0) (a_ (ow (v:=.ty "list") (by rfl) T.xl ab7 rfl) e_))))) (fR (hG kc)) hU)
   (de (iD aaM rfl (ie (pv 0)) (tL 1 n5) (fR (ip ((pw_or (kC (lx (gz j2 (by rfl) T.jI abe (a_ (pv 1) (a_ (ow (v:=.ty "tuple") (by rfl) T.Hx PyProof.Rows.boot_tuple rfl) e_))))) (pw_or (hX Hk (gz gq (by rfl) T.jx aaL (a_ (pv 1) e_)) f_ (iA _)) (pw_or (kC (lx (og O.qK nI hr (a_ (jq kT (pv 1) f_ (λ_ _=>rfl)) e_)))) (pw_or1 (kC (lx (og O.qK nI hr (a_ (jq kT (pv 1) f_ (λ_ _=>rfl)) e_)))))))).pt) (fR (hG kc)) hU)))
   (fR (hG kc)))),?_⟩
 refine FO ?_;intro _ _
 refine⟨_,rfl,_,_,_,_,rfl,.lst hp,Lx,_,rfl,jg ?_⟩
 let Jv:=λ(i:Nat) (Z:St) (H2:Hp)=>∃v,Z=[rr p,v]/\H2=H
 refine⟨_,rfl,p,rfl,⟨_,gC.of hp⟩,iV (K:=K) (a:=p) (xs:=ps) Jv ⟨none,rfl,rfl⟩ (by rintro _ _ _ _ ⟨_,_,e⟩;rw[e];exact gC.of hp) ?_ ?_⟩
 ·rintro i y Z H2 hi ⟨v,rfl,rfl⟩
  have j3:=(List.getElem?_eq_some_iff.mp hi).1
  rw[hl,O4] at j3
  have tP:(row.map λq=>Dv.t [.i q.1,.i q.2])[i]?=some (.t [.i row[i].1,.i row[i].2]):=by rw[aan,UQ j3];rfl
  obtain⟨a,rfl,ha⟩:=(ZR i y _ hi tP).Up
  refine⟨_,rfl,_,_,_,_,rfl,.tup ha,Lz,_,rfl,jg ?_⟩
  refine⟨_,rfl,a,_,rfl,.inr (ox.of ha),rfl,_,rfl,Kg (by rfl) ?_⟩
  refine⟨_,rfl,a,_,_,_,rfl,rfl,ox.of ha,gs (j:=0) rfl rfl,_,rfl,_,rfl,jg ?_⟩
  refine⟨_,rfl,a,_,_,_,rfl,rfl,ox.of ha,gs (j:=1) rfl rfl,_,rfl,_,rfl,jg ?_⟩
  exact⟨_,rfl,rfl⟩
 ·rintro Z H2 ⟨v,rfl,rfl⟩
  exact q
noncomputable def Wj(l:Ln):T3:=(l.nm.1,(l.nm.2:Int),l.tx)
theorem LA{K:Qqy}{H:Hp}{n:Nat}{x y:V}{l l':Ln}(hx:sQ H x l)(hy:sQ H y l'):mL K H (n+2) x y (decide (tr l=tr l')):=by
 obtain⟨t,rfl,h⟩:=hx
 obtain⟨t',rfl,h'⟩:=hy
 have z:=mL.qh (K:=K) (H:=H) (n:=n+1) (e:=λj=>match j with|0=>decide (l.nm.1=l'.nm.1)|1=>decide ((l.nm.2:Int)=l'.nm.2)|_=>decide (l.tx=l'.tx)) (ox.of h) (ox.of h') λj u v hu hv=>by
  match j with
  | 0=>cases hu;cases hv;exact mL.CH _ _
  | 1=>cases hu;cases hv;exact mL.J9 _ _
  | 2=>cases hu;cases hv;exact mL.CH _ _
  | j+3=>simp at hu
 have e:((List.range 3).all (λj=>match j with|0=>decide (l.nm.1=l'.nm.1)|1=>decide ((l.nm.2:Int)=l'.nm.2)|_=>decide (l.tx=l'.tx))&&true)=decide (tr l=tr l'):=by
  rw[Bool.and_true,abn]
  simp only [abC,abr,aaS]
  unfold tr
  constructor
  ·intro g
   have h0:=aaA (g 0 (by decide))
   have h1:=aaA (g 1 (by decide))
   have h2:=aaA (g 2 (by decide))
   rw[h0,Int.ofNat.inj h1,h2]
  ·intro g j hj
   have h0:=abd Prod.fst g
   have h1:=abd (λz=>z.2.1) g
   have h2:=abd (λz=>z.2.2) g
   match j,hj with
   | 0,_=>exact XZ h0
   | 1,_=>exact XZ (abd Int.ofNat h1)
   | 2,_=>exact XZ h2
 rw[<-e]
 exact z
theorem Cm{H:Hp}{x:V}{l l':Ln}(h:sQ H x l)(h':sQ H x l'):tr l=tr l':=by
 obtain⟨a,rfl,h1⟩:=h
 obtain⟨b,e2,h2⟩:=h'
 cases e2
 rw[h1] at h2
 injection h2 with h2
 injection h2 with h2
 simp only [List.cons.injEq,V.str.injEq,V.int.injEq,and_true] at h2
 unfold tr
 rw[h2.1,Int.ofNat.inj h2.2.1,h2.2.2]
def LB(H:Hp)(v:V)(la lb:Ln):Prop:=∃a x y,v=.ref a/\H a=some (.lst [x,y])/\sQ H x la/\sQ H y lb
theorem NX{K:Qqy}{H:Hp}{u v:V}{la lb Og Oh:Ln}(h:LB H u la lb)(h':LB H v Og Oh):mL K H 4 u v (decide (tr la=tr Og/\tr lb=tr Oh)):=by
 obtain⟨a,x,y,rfl,h1,h2,h3⟩:=h
 obtain⟨a',x',y',rfl,g1,g2,g3⟩:=h'
 have z:=mL.lists (K:=K) (H:=H) (n:=3) (e:=λj=>match j with|0=>decide (tr la=tr Og)|_=>decide (tr lb=tr Oh)) (gC.of h1) (gC.of g1) rfl λj u v hu hv=>by
  match j with
  | 0=>cases hu;cases hv;exact LA h2 g2
  | 1=>cases hu;cases hv;exact LA h3 g3
  | j+2=>simp at hu
 have e:(List.range 2).all (λj=>match j with|0=>decide (tr la=tr Og)|_=>decide (tr lb=tr Oh))=decide (tr la=tr Og/\tr lb=tr Oh):=by
  rw[abn]
  simp only [abC,abr,aaS]
  constructor
  ·intro g
   exact⟨aaA (g 0 (by decide)),aaA (g 1 (by decide))⟩
  ·intro g j hj
   match j,hj with
   | 0,_=>exact XZ g.1
   | 1,_=>exact XZ g.2
 rw[<-e]
 exact z
theorem LC{H:Hp}{v:V}{la lb Og Oh:Ln}(h:LB H v la lb)(h':LB H v Og Oh):tr la=tr Og/\tr lb=tr Oh:=by
 obtain⟨a,x,y,rfl,h1,h2,h3⟩:=h
 obtain⟨a',x',y',e,g1,g2,g3⟩:=h'
 cases e
 rw[h1] at g1
 cases g1
 exact⟨Cm h2 g2,Cm h3 g3⟩
def LD(H:Hp)(row:List Ln)(v:V)(q:Nat×Nat):Prop:=∃la lb,row[q.1]?=some la/\row[q.2]?=some lb/\LB H v la lb
open Classical in
theorem Fs{K:Qqy}{H:Hp}{row:List Ln}{vs:List V}{qs:List (Nat×Nat)}(p:Paired (LD H row) vs qs){w:V}{a b:Ln}(hw:LB H w a b):∃g:V->Bool,(∀z∈vs,mL K H 4 z w (g z))/\((∃q∈qs,row[q.1]?=some a/\row[q.2]?=some b)->vs.any g=true):=by
 refine⟨λz=>decide (∃la lb,LB H z la lb/\tr la=tr a/\tr lb=tr b),λz hz=>?_,λ⟨q,hq,h1,h2⟩=>?_⟩
 ·obtain⟨i,hi⟩:=aaT.mp hz
  obtain⟨q,_,la,lb,_,_,hp⟩:=ic p hi
  have e:decide (∃la lb,LB H z la lb/\tr la=tr a/\tr lb=tr b)=decide (tr la=tr a/\tr lb=tr b):=by
   rw[decide_eq_decide]
   refine⟨λ⟨Og,Oh,h,e1,e2⟩=>?_,λh=>⟨la,lb,hp,h⟩⟩
   obtain⟨g1,g2⟩:=LC hp h
   exact⟨g1.trans e1,g2.trans e2⟩
  show mL K H 4 z w (decide (∃la lb,LB H z la lb/\tr la=tr a/\tr lb=tr b))
  rw[e]
  exact NX hp hw
 ·rw[List.any_eq_true]
  obtain⟨i,hi⟩:=aaT.mp hq
  obtain⟨z,hz,la,lb,g1,g2,hp⟩:=ir p hi
  rw[h1] at g1
  rw[h2] at g2
  cases g1
  cases g2
  exact⟨z,XY hz,XZ ⟨a,b,hp,rfl,rfl⟩⟩
noncomputable def tD(x:T3):Dv:=.t [.s x.1,.i x.2.1,.s x.2.2]
theorem HP{H:Hp}{a:Addr}{zs:List V}{ts:List T3}(h:H a=some (.lst zs))(p:Paired (OP H) zs ts):Rep H 2 (.ref a) (.l (ts.map tD)):=by
 refine Rep.xw h p λv x ⟨t,e,ht⟩=>?_
 subst e
 refine .t ht rfl λj u d hu hd=>?_
 match j with
 | 0=>cases hu;cases hd;exact .s
 | 1=>cases hu;cases hd;exact .i
 | 2=>cases hu;cases hd;exact .s
 | j+3=>simp at hu
theorem uF{H:Hp}:∀{vs:List V} {row:List Ln},Paired (sQ H) vs row->Paired (OP H) vs (row.map Wj)
 | _,_,.nil=>.nil
 | _,_,.cons f p=>.cons f (uF p)
def Mn(H:Hp)(v:V)(row:List Ln)(qs:List (Nat×Nat)):Prop:=∃u r c vs,v=.ref u/\H u=some (.lst [.ref r,.ref c])/\v_ H r row/\H c=some (.lst vs)/\iC H qs vs
theorem Ft(x:Int)(l:List Int):R3 (.int x) (l.map V.int)=decide (x∈l):=by
 unfold R3
 rw[abn,List.any_map,List.any_eq_true,aaS]
 constructor
 ·rintro⟨y,hy,e⟩
  have e:(y ==x)=true:=e
  rw[<-eq_of_beq e];exact hy
 ·exact λh=>⟨x,h,by show(x ==x)=true;exact beq_self_eq_true _⟩
theorem Jm(l:List Int):(l.map V.int).all l8=true:=by
 rw[List.all_map,abC]
 intro x _
 rfl
noncomputable def ug(row:List Ln)(ps:List Int)(n:Nat):List Ln:=((List.range n).filter λ(k:Nat)=>decide ((k:Int)∉ps)).filterMap λk=>row[k]?
theorem HQ{row:List Ln}{ps:List Int}{n:Nat}{l:Ln}(h:row[n]?=some l)(hn:(n:Int)∉ps):ug row ps (n+1)=ug row ps n++[l]:=by
 unfold ug
 rw[acx,aaH,YR (by simpa using hn),aa2,abW,abD,h]
 rfl
theorem HR{row:List Ln}{ps:List Int}{n:Nat}(hn:(n:Int)∈ps):ug row ps (n+1)=ug row ps n:=by
 unfold ug
 rw[acx,aaH,aai (by simpa using hn),aa2,aaZ]
def Q8:Sp:=λvs H Q _=>∃(b e:V)(pl:Addr)(row DD:List Ln)(qs VI:List (Nat×Nat))(ps:List Int),vs=[b,e,.ref pl]/\Mn H b row qs/\Mn H e DD VI/\H pl=some (.lst (ps.map V.int))/\row.length<64/\DD.length<64/\qs.length<=4096/\
 (∀q∈qs,q.1<row.length/\q.2<row.length)/\DD.Perm (ug row ps row.length)/\(∀i j,(i,j)∈VI->∃a b p q,DD[i]?=some a/\DD[j]?=some b/\(p,q)∈qs/\(row[p]?=some a/\row[q]?=some b\/row[p]?=some b/\row[q]?=some a))/\∀H',gh H H'->Q (.bl true) H'
theorem Du(T:Txt mg)(O:Ok K mg A):ig P w K mg base mK 3 A.p0 A.p3 ["before","behind","places"] Q8:=by
 have m_:=@yH P w K mg base A T O
 have wx:=@Bt P w K mg base A T O
 refine O.sE.f.rA iJ λju A outer s H vs Q E hr h=>?_
 obtain⟨bv,ev,pl,row,DD,qs,VI,ps,rfl,⟨b,r,c,cv,rfl,hb,⟨rv,xF,zo⟩,LW,SN⟩,⟨e,r',c',cv',rfl,he,⟨rv',Oi,L_⟩,RQ,VJ⟩,nJ,l64,l64',lq,Zp,Ph,hqq,q⟩:=h
 have sz:sizeLine=16777216:=aaP
 have Vz:=aau zo
 have hvl':=aau L_
 have Ms:=aau SN
 refine⟨_,(de (wK (j:=3) pL (gb kS).names [8] iJ.nd rfl rfl rfl (jT rfl T.lr (a_ (gz gq (by rfl) T.jx aaL (a_ (kK (pv 0) f_) e_)) e_)) rfl (by decide+kernel) (λ_ _ _ _=>(iu (i:=8) iJ.nd rfl (Or.inl rfl))) (λ_ _ _ _=>⟨_,nM (hX CA (pv 8) (pv 2) rfl),by(try simp only [kO]);rfl⟩) (λ_ _ _ _=>zb (kK (kK (pv 0) f_) (pv 8))))
   (de (ip ((pw_or (kC (lx (og O.o6 m_ hr (a_ (kK (pv 1) f_) e_)))) (pw_or (kC (lx (og O.rn wx hr (a_ (kK (pv 1) f_) e_)))) (pw_or1 (hX (CG 4 (by exact OD hr)) (gz AD (by rfl) T.EU PyProof.Rows.boot_sorted (a_ (kK (pv 1) f_) e_)) (gz AD (by rfl) T.EU PyProof.Rows.boot_sorted (a_ (pv 3) e_)) (iA _))))).pt) (fR (hG kc)) hU)
   (de (k7 4 iJ (iB e_))
   (de (iD aaM rfl (ie (kK (pv 0) f_)) (tL 5 iJ) (fR (hV (pB aa1 aa_ aba ko (pv 4) (a_ (iB (a_ (kK (kK (pv 0) f_) (jq kT (pv 5) f_ (λ_ _=>rfl))) (a_ (kK (kK (pv 0) f_) (jq kT (pv 5) f_ (λ_ _=>rfl))) e_))) e_)))))
   (de (iD aaM rfl (ie (kK (pv 1) f_)) (tL 5 iJ) (de (k7 6 iJ (kK (kK (pv 1) f_) (jq kT (pv 5) f_ (λ_ _=>rfl))))
   (de (k7 7 iJ (kK (kK (pv 1) f_) (jq kT (pv 5) f_ (λ_ _=>rfl))))
   (fR (ip ((pw_and (hX (Cj 4 (by exact OD hr)) (iB (a_ (pv 6) (a_ (pv 7) e_))) (pv 4) rfl) (pw_and1 (hX (Cj 4 (by exact OD hr)) (iB (a_ (pv 7) (a_ (pv 6) e_))) (pv 4) rfl))).pt) (fR (hG kc)) hU)))))
   (fR (hG kc))))))),?_⟩
 refine R7 ?_;intro _ _ _ _ _
 refine⟨_,rfl,b,_,_,_,rfl,rfl,gC.of hb,gs (j:=0) rfl rfl,r,_,rfl,.inl (gC.of xF),_,rfl,by omega,by omega,?_⟩
 rw[abP]
 let Jv:=λ(i:Nat) (ys:List V) (Z:St) (H2:Hp)=>∃(v8:Option V),Z=[rr b,rr e,rr pl,none,none,none,none,none,v8]/\H2=H/\ys.length<=i/\Paired (sQ H) ys (ug row ps i)
 refine rH (by omega) Jv
  ⟨none,rfl,rfl,XU _,.nil⟩ (by rintro _ _ _ _ ⟨_,_,_,e2,_⟩;exact e2) ?_ ?_
 ·rintro i ys Z H2 hi ⟨v8,rfl,rfl,Sv,O9⟩
  rw[show(0:Int)+(i:Int)=(i:Int) by omega]
  refine⟨_,rfl,_,rfl,pl,_,rfl,.inl (gC.of nJ),rfl,Jm _,_,rfl,?_⟩
  obtain⟨l,hl⟩:∃l,row[i]?=some l:=⟨_,UQ (by omega)⟩
  refine kZ (λLO=>?_) (λLO=>?_)
  ·have LO:(!R3 (V.int i) (ps.map V.int))=true:=LO
   rw[Ft] at LO
   obtain⟨v,hv,ht⟩:=ir zo hl
   refine⟨_,rfl,b,_,_,_,rfl,rfl,gC.of hb,gs (j:=0) rfl rfl,_,rfl,r,_,_,_,rfl,rfl,gC.of xF,gs rfl hv,_,rfl,rfl,by rw[YN];exact Nat.succ_le_succ Sv,?_⟩
   rw[HQ hl (by simpa using LO)]
   exact ij O9 ht
  ·have LO:¬(!R3 (V.int i) (ps.map V.int))=true:=LO
   rw[Ft] at LO
   refine⟨_,rfl,rfl,by omega,?_⟩
   rw[HR (by simpa using LO)]
   exact O9
 rintro ys Z H2 ⟨v8,rfl,rfl,Sv,O9⟩ du hdu
 rw[Vz] at O9 Sv
 have s3:=(gh.refl H2).new (o:=.lst ys) hdu
 have u3:(upd H2 du (.lst ys)) du=some (.lst ys):=b_
 generalize upd H2 du (.lst ys)=H3 at s3 u3
 have ZS:v_ H3 r' DD:=⟨rv',s3 _ _ Oi,Paired.i4 L_ λv l ⟨t,e,h⟩=>⟨t,e,s3 _ _ h⟩⟩
 have pr3:iC H3 VI cv':=Paired.i4 VJ λq v ⟨t,e,h⟩=>⟨t,e,s3 _ _ h⟩
 refine⟨_,rfl,e,_,_,_,rfl,rfl,gC.of (s3 _ _ he),gs (j:=0) rfl rfl,.ref r',2,DD,rfl,ZS.rep,_,rfl,jg ?_⟩
 refine⟨_,rfl,e,_,_,_,rfl,rfl,gC.of (s3 _ _ he),gs (j:=1) rfl rfl,.ref c',2,VI,rfl,Ci (s3 _ _ RQ) pr3,_,rfl,jg ?_⟩
 have hdl:=aau O9
 refine⟨_,rfl,e,_,_,_,rfl,rfl,gC.of (s3 _ _ he),gs (j:=0) rfl rfl,r',rv',DD.map Wj,rfl,gC.of (s3 _ _ Oi),uF (Paired.i4 L_ λv l ⟨t,e,h⟩=>⟨t,e,s3 _ _ h⟩),by omega,λl1 Pj ZT N5 p1 zN so1 _=>?_⟩
 have s4:=s3.new (o:=.lst Pj) N5
 have u4:(upd H3 l1 (.lst Pj)) l1=some (.lst Pj):=b_
 have u4d:=hZ (u:=.lst Pj) N5 u3
 have p4:Paired (OP (upd H3 l1 (.lst Pj))) Pj ZT:=Paired.i4 p1 λv x ⟨t,e,h⟩=>⟨t,e,hZ N5 h⟩
 generalize upd H3 l1 (.lst Pj)=H4 at s4 u4 u4d p4
 refine⟨_,rfl,du,ys,(ug row ps row.length).map Wj,rfl,gC.of u4d,uF (Paired.i4 O9 λv l ⟨t,e,h⟩=>⟨t,e,s4 _ _ h⟩),by omega,λl2 Pk ts2 FQ p2 pm2 so2 _=>?_⟩
 have s5:=s4.new (o:=.lst Pk) FQ
 have u5:(upd H4 l2 (.lst Pk)) l2=some (.lst Pk):=b_
 have u5':=hZ (u:=.lst Pk) FQ u4
 have p5:Paired (OP (upd H4 l2 (.lst Pk))) Pk ts2:=Paired.i4 p2 λv x ⟨t,e,h⟩=>⟨t,e,hZ FQ h⟩
 have p5':Paired (OP (upd H4 l2 (.lst Pk))) Pj ZT:=Paired.i4 p4 λv x ⟨t,e,h⟩=>⟨t,e,hZ FQ h⟩
 generalize upd H4 l2 (.lst Pk)=H5 at s5 u5 u5' p5 p5'
 have ets:ZT=ts2:=Ji ((zN.trans (Ph.map Wj)).trans pm2.symm) so1 so2
 subst ets
 refine⟨true,⟨l1,l2,rfl,rfl⟩,((HP u5' p5').mono (by decide)).eq ((HP u5 p5).mono (by decide)),_,rfl,jg ?_⟩
 refine⟨L2.jM,λQa hQa=>?_⟩
 have hQH:H2 Qa=none:=s5.free hQa
 have s6:=s5.new (o:=.lst []) hQa
 have u6:(upd H5 Qa (.lst [])) Qa=some (.lst []):=b_
 generalize upd H5 Qa (.lst [])=H6 at s6 u6
 dsimp only [l7];refine Jz ?_;intro _
 let Jv:=λ(i:Nat) (Z:St) (H7:Hp)=>∃(v5:Option V)(zs:List V),Z=[rr b,rr e,rr pl,rr du,rr Qa,v5,none,none,none]/\gh H2 H7/\H7 Qa=some (.lst zs)/\zs.length<=i/\(∀z∈zs,z≠.ref Qa)/\Paired (LD H7 row) zs (qs.take i)
 refine⟨_,rfl,b,_,_,_,rfl,rfl,gC.of (s6 _ _ hb),gs (j:=1) rfl rfl,c,rfl,⟨_,gC.of (s6 _ _ LW)⟩,iV (K:=K) (a:=c) (xs:=cv) Jv
  ⟨none,[],rfl,s6,u6,XU _,λz hz=>(by cases hz),.nil⟩ (by rintro _ _ _ _ ⟨_,_,_,e,_⟩;exact gC.of (e _ _ LW)) ?_ ?_⟩
 ·rintro i v Z H7 hv ⟨v5,zs,rfl,s7,u7,hzl,Oc,W8⟩
  obtain⟨q0,L8,t,rfl,ht⟩:=ir SN hv
  obtain⟨g1,g2⟩:=Zp q0 (XY L8)
  obtain⟨la,Oe⟩:∃l,row[q0.1]?=some l:=⟨_,UQ g1⟩
  obtain⟨lb,FH⟩:∃l,row[q0.2]?=some l:=⟨_,UQ g2⟩
  obtain⟨xa,ZU,ta⟩:=ir zo Oe
  obtain⟨xb,ZV,tb⟩:=ir zo FH
  have ht7:=s7 _ _ ht
  have hiq:i<qs.length:=(List.getElem?_eq_some_iff.mp L8).1
  refine⟨_,rfl,.inl ⟨rfl,_,gC.of u7⟩,_,rfl,b,_,_,_,rfl,rfl,gC.of (s7 _ _ hb),gs (j:=0) rfl rfl,_,rfl,t,_,_,_,rfl,rfl,ox.of ht7,gs (j:=0) rfl rfl,r,_,_,_,rfl,rfl,gC.of (s7 _ _ xF),gs rfl ZU,_,rfl,b,_,_,_,rfl,rfl,gC.of (s7 _ _ hb),gs (j:=0) rfl rfl,_,rfl,t,_,_,_,rfl,rfl,ox.of ht7,gs (j:=1) rfl rfl,r,_,_,_,rfl,rfl,gC.of (s7 _ _ xF),gs rfl ZV,L2.jM,λw2 RS=>?_⟩
  have s8:=s7.new (o:=.lst [xa,xb]) RS
  have hwq:Qa≠w2:=gg u7 RS
  refine⟨Qa,_,_,rfl,rfl,hZ RS u7,by omega,?_⟩
  have tup:∀{v:V} {l:Ln},sQ H2 v l->sQ (upd (upd H7 w2 (.lst [xa,xb])) Qa (.lst (zs++[.ref w2]))) v l:=λ{v l} ⟨t,e,h⟩=>⟨t,e,by
   have h8:=s8 _ _ h
   rw[d_ (λz=>by rw[z,hZ RS u7] at h8;cases h8)]
   exact h8⟩
  refine⟨_,zs++[.ref w2],rfl,s8.upd hQH,b_,by rw[YN];exact Nat.succ_le_succ hzl,λz hz=>?_,?_⟩
  ·rcases aak.mp hz with hz|hz
   ·exact Oc z hz
   ·rw[XS.mp hz]
    intro z
    exact hwq (V.ref.inj z).symm
  ·rw[take_snoc L8]
   refine ij ?_ ⟨la,lb,Oe,FH,w2,xa,xb,rfl,by rw[d_ hwq.symm,b_],tup ta,tup tb⟩
   have key:∀{us:List V} {ks:List (Nat×Nat)},(∀z∈us,z≠.ref Qa)->Paired (LD H7 row) us ks->Paired (LD (upd (upd H7 w2 (.lst [xa,xb])) Qa (.lst (zs++[.ref w2]))) row) us ks:=by
    intro us ks hu p
    induction p with
    | nil=>exact .nil
    | cons f _ ih=>
     refine .cons ?_ (ih λz hz=>hu z (aal _ hz))
     obtain⟨la,lb,k1,k2,a,x,y,rfl,k3,⟨t1,e1,k4⟩,⟨t2,e2,k5⟩⟩:=f
     have up:∀{z:Addr} {o:HO},z≠Qa->H7 z=some o->upd (upd H7 w2 (.lst [xa,xb])) Qa (.lst (zs++[.ref w2])) z=some o:=λhn h=>by rw[d_ hn,d_ (gg h RS)];exact h
     exact⟨la,lb,k1,k2,a,x,y,rfl,up (λz=>hu _ aaC (by rw[z])) k3,⟨t1,e1,up (λz=>by rw[z,u7] at k4;cases k4) k4⟩,⟨t2,e2,up (λz=>by rw[z,u7] at k5;cases k5) k5⟩⟩
   exact key Oc W8
 rintro Z H7 ⟨v5,zs,rfl,s7,u7,hzl,Oc,W8⟩
 rw[<-Ms,aaD] at W8
 dsimp only [l7];refine Jz ?_;intro _
 let Jv:=λ(i:Nat) (Z:St) (H8:Hp)=>∃(v5 v6 v7:Option V),Z=[rr b,rr e,rr pl,rr du,rr Qa,v5,v6,v7,none]/\gh H7 H8
 refine⟨_,rfl,e,_,_,_,rfl,rfl,gC.of (s7 _ _ he),gs (j:=1) rfl rfl,c',rfl,⟨_,gC.of (s7 _ _ RQ)⟩,iV (K:=K) (a:=c') (xs:=cv') Jv ⟨v5,none,none,rfl,gh.refl _⟩ (by rintro _ _ _ _ ⟨_,_,_,_,e⟩;exact gC.of (e _ _ (s7 _ _ RQ))) ?_ ?_⟩
 ·rintro i v Z H8 hv ⟨v5,v6,v7,rfl,Mv⟩
  have s8:=s7.trans Mv
  obtain⟨q0,L8,t,rfl,ht⟩:=ir VJ hv
  obtain⟨la,lb,p,qq,Oe,FH,G2,YD⟩:=hqq q0.1 q0.2 (XY L8)
  obtain⟨xa,ZU,ta⟩:=ir L_ Oe
  obtain⟨xb,ZV,tb⟩:=ir L_ FH
  have ht8:=s8 _ _ ht
  refine⟨_,rfl,e,_,_,_,rfl,rfl,gC.of (s8 _ _ he),gs (j:=0) rfl rfl,_,rfl,t,_,_,_,rfl,rfl,ox.of ht8,gs (j:=0) rfl rfl,r',_,_,_,rfl,rfl,gC.of (s8 _ _ Oi),gs rfl ZU,?_⟩
  refine⟨_,rfl,e,_,_,_,rfl,rfl,gC.of (s8 _ _ he),gs (j:=0) rfl rfl,_,rfl,t,_,_,_,rfl,rfl,ox.of ht8,gs (j:=1) rfl rfl,r',_,_,_,rfl,rfl,gC.of (s8 _ _ Oi),gs rfl ZV,?_⟩
  have W9:∀{H9:Hp} {v:V} {l:Ln},gh H8 H9->sQ H2 v l->sQ H9 v l:=λs ⟨t,e,h⟩=>⟨t,e,s _ _ (s8 _ _ h)⟩
  have upP:∀{H9:Hp},gh H8 H9->Paired (LD H9 row) zs qs:=λ{H9} s=>Paired.i4 W8 λv q ⟨la,lb,k1,k2,a,x,y,e,k3,⟨t1,e1,k4⟩,⟨t2,e2,k5⟩⟩=>⟨la,lb,k1,k2,a,x,y,e,s _ _ (Mv _ _ k3),⟨t1,e1,s _ _ (Mv _ _ k4)⟩,⟨t2,e2,s _ _ (Mv _ _ k5)⟩⟩
  refine⟨_,rfl,_,rfl,L2.jM,λw1 Zt=>?_⟩
  have s9:=(gh.refl H8).new (o:=.lst [xa,xb]) Zt
  have u9:(upd H8 w1 (.lst [xa,xb])) w1=some (.lst [xa,xb]):=b_
  generalize upd H8 w1 (.lst [xa,xb])=H9 at s9 u9
  obtain⟨g,O0,hg2⟩:=Fs (K:=K) (upP s9) (show LB H9 (.ref w1) la lb from ⟨w1,xa,xb,rfl,u9,W9 s9 ta,W9 s9 tb⟩)
  refine⟨_,rfl,Qa,zs,g,rfl,gC.of (s9 _ _ (Mv _ _ u7)),O0,_,rfl,?_⟩
  rw[aax rfl]
  cases hgb:zs.any g with
  | true=>exact jg (jg ⟨_,_,_,rfl,Mv.trans s9⟩)
  | false=>
   refine lK ?_
   have ZW:row[p]?=some lb/\row[qq]?=some la:=YD.resolve_left λz=>by rw[hg2 ⟨(p,qq),G2,z⟩] at hgb;cases hgb
   refine⟨_,rfl,_,rfl,L2.jM,λw2 RS=>?_⟩
   have FR:=s9.new (o:=.lst [xb,xa]) RS
   have SO:(upd H9 w2 (.lst [xb,xa])) w2=some (.lst [xb,xa]):=b_
   generalize upd H9 w2 (.lst [xb,xa])=y6 at FR SO
   obtain⟨g',ZX,ZY⟩:=Fs (K:=K) (upP FR) (show LB y6 (.ref w2) lb la from ⟨w2,xb,xa,rfl,SO,W9 FR tb,W9 FR ta⟩)
   refine⟨_,rfl,Qa,zs,g',rfl,gC.of (FR _ _ (Mv _ _ u7)),ZX,_,rfl,?_⟩
   rw[aax rfl,ZY ⟨(p,qq),G2,ZW⟩]
   exact jg ⟨_,_,_,rfl,Mv.trans FR⟩
 ·rintro Z H8 ⟨v5,v6,v7,rfl,Mv⟩
  exact q H8 (s7.trans Mv)
end
noncomputable def nj(x y:Addr)(H:Hp):Hp:=λb=>if b=x\/b=y then none else H b
section
variable{x y b:Addr}{H H':Hp}
theorem mx(h1:b≠x)(h2:b≠y):nj x y H b=H b:=aav λh=>h.elim h1 h2
theorem wj{o:HO}(h:nj x y H b=some o):H b=some o/\b≠x/\b≠y:=by
 by_cases e:b=x\/b=y
 ·rw[show nj x y H b=none from aax e] at h;cases h
 ·exact⟨(aav e).symm.trans h,λz=>e (.inl z),λz=>e (.inr z)⟩
theorem qd(s:gh H H'):gh (nj x y H) (nj x y H'):=λb o e=>by
 obtain⟨e,n1,n2⟩:=wj e
 rw[mx n1 n2];exact s _ _ e
theorem jf:gh (nj x y H) H:=λb o e=>(wj e).1
theorem HS{o:HO}(h:b=x\/b=y):nj x y (upd H b o)=nj x y H:=by
 funext c
 by_cases e:c=x\/c=y
 ·exact(aax e).trans (aax e).symm
 ·exact(aav e).trans ((d_ λ(z:c=b)=>e (z▸h)).trans (aav e).symm)
theorem HU{G:Hp}(s:gh G H)(hx:G x=none)(hy:G y=none):gh G (nj x y H):=λb o e=>by
 rw[mx (gg e hx) (gg e hy)];exact s _ _ e
end
def LT(H H':Hp):Prop:=(∀a vs,H a=some (.lst vs)->H' a=some (.lst vs))/\∀a vs,H a=some (.tup vs)->H' a=some (.tup vs)
theorem LT.of{H H':Hp}(s:gh H H'):LT H H':=⟨λa vs h=>s _ _ h,λa vs h=>s _ _ h⟩
theorem LT.trans{H H' H2:Hp}(a:LT H H')(b:LT H' H2):LT H H2:=⟨λx vs h=>b.1 _ _ (a.1 _ _ h),λx vs h=>b.2 _ _ (a.2 _ _ h)⟩
theorem LT.x{A:Ad}{H H':Hp}{d:Addr}{D:Dk}{W:Addr->Prop}(X:ib A H d D W)(s:oW W H H'):LT H H':=⟨λa vs h=>s _ _ h (X.lst h),λa vs h=>s _ _ h (X.tup h)⟩
theorem LT.nj{H H':Hp}(s:LT H H')(x y:Addr):LT (nj x y H) (nj x y H'):=⟨λa vs h=>by
 obtain⟨e,n1,n2⟩:=wj h
 rw[mx n1 n2];exact s.1 _ _ e,λa vs h=>by
 obtain⟨e,n1,n2⟩:=wj h
 rw[mx n1 n2];exact s.2 _ _ e⟩
theorem Rep.lt{H H':Hp}{n:Nat}{v:V}{d:Dv}(r:Rep H n v d)(s:LT H H'):Rep H' n v d:=by
 induction r with
 | o=>exact .o
 | s=>exact .s
 | i=>exact .i
 | l h hl _ ih=>exact .l (s.1 _ _ h) hl ih
 | t h hl _ ih=>exact .t (s.2 _ _ h) hl ih
theorem Mn.lt{H H':Hp}{v:V}{row:List Ln}{qs:List (Nat×Nat)}(m:Mn H v row qs)(s:LT H H'):Mn H' v row qs:=by
 obtain⟨u,r,c,vs,e,h1,⟨rv,h2,h3⟩,h4,h5⟩:=m
 exact⟨u,r,c,vs,e,s.1 _ _ h1,⟨rv,s.1 _ _ h2,Paired.i4 h3 λv l ⟨t,e,h⟩=>⟨t,e,s.2 _ _ h⟩⟩,s.1 _ _ h4,Paired.i4 h5 λq v ⟨t,e,h⟩=>⟨t,e,s.2 _ _ h⟩⟩
theorem Mn.rep{H:Hp}{v:V}{row:List Ln}{qs:List (Nat×Nat)}(m:Mn H v row qs):Rep H 3 v (.l [Jd row,Sd qs]):=by
 obtain⟨u,r,c,vs,rfl,h1,h2,h4,h5⟩:=m
 exact Rep.two h1 h2.rep (Ci h4 h5)
theorem One.mn{H0 H:Hp}{row:List Ln}{qu:List (Nat×Nat)}{v:V}(o:One H0 H row qu v):Mn H v row qu:=by
 obtain⟨u,r,c,qs,e,h1,h2,h3,h4,h5,h6,h7⟩:=o
 exact⟨u,r,c,qs,e,h4,h5,h6,h7⟩
theorem One.away{H0 H1 H2:Hp}{row:List Ln}{qu:List (Nat×Nat)}{v:V}(o:One H0 H1 row qu v)(s:gh H0 H1)(s':gh H1 H2){x y:Addr}{l l':List V}(hx:H0 x=some (.lst l))(hy:H0 y=some (.lst l')):Mn (nj x y H2) v row qu:=by
 obtain⟨u,r,c,qs,e,h1,h2,h3,h4,⟨rv,h5,h5'⟩,h6,h7⟩:=o
 have nf:∀{b:Addr} {o:HO},H0 b=none->H1 b=some o->nj x y H2 b=some o:=λhb h=>by
  rw[mx (λz=>by rw[z,hx] at hb;cases hb) (λz=>by rw[z,hy] at hb;cases hb)];exact s' _ _ h
 have nt:∀{b:Addr} {xs:List V},H1 b=some (.tup xs)->nj x y H2 b=some (.tup xs):=λh=>by
  rw[mx (λz=>by rw[z,s _ _ hx] at h;cases h) (λz=>by rw[z,s _ _ hy] at h;cases h)];exact s' _ _ h
 exact⟨u,r,c,qs,e,nf h1 h4,⟨rv,nf h2 h5,Paired.i4 h5' λv l ⟨t,e,h⟩=>⟨t,e,nt h⟩⟩,nf h3 h6,Paired.i4 h7 λq v ⟨a,e,h⟩=>⟨a,e,nt h⟩⟩
noncomputable def bD(D:Dk)(o:Str)(fl:List Str):Dv:=.l [.l ((D.has o).map Dv.s),OM D o fl]
structure El(H:Hp)(D:Dk)(fl:List Str)(o:Str)(b h s:Addr)(us:List V):Prop where
 hb:H b=some (.lst [.ref h,.ref s])
 hh:nj b s H h=some (.lst (gk (D.has o)))
 hs:H s=some (.lst us)
 hu:Paired (λv f=>Mn (nj b s H) v (D.row o f) (D.jR o f)) us fl
 ne:b≠s
theorem El.lt{H H':Hp}{D:Dk}{fl:List Str}{o:Str}{b h s:Addr}{us:List V}(e:El H D fl o b h s us)(t:LT H H'):El H' D fl o b h s us:=
 ⟨t.1 _ _ e.hb,(t.nj b s).1 _ _ e.hh,t.1 _ _ e.hs,Paired.i4 e.hu λv f m=>m.lt (t.nj b s),e.ne⟩
theorem Dw{H:Hp}{D:Dk}{fl:List Str}{o:Str}{b h s:Addr}{us:List V}(hb:H b=some (.lst [.ref h,.ref s]))(hh:H h=some (.lst (gk (D.has o))))(hs:H s=some (.lst us))(hu:Paired (λv f=>Mn H v (D.row o f) (D.jR o f)) us fl):Rep H 5 (.ref b) (bD D o fl):=
 Rep.two hb (Rep.strs (n:=3) hh) (Rep.xw hs hu λv f m=>m.rep)
theorem El.rep{H:Hp}{D:Dk}{fl:List Str}{o:Str}{b h s:Addr}{us:List V}(e:El H D fl o b h s us):Rep H 5 (.ref b) (bD D o fl):=
 Dw e.hb (jf _ _ e.hh) e.hs (Paired.i4 e.hu λv f m=>m.lt (.of jf))
abbrev E4:=Addr×Addr×Addr×List V
structure OR(H:Hp)(D:Dk)(Mw fl:List Str)(es:List E4):Prop where
 own:∀(j:Nat) e o,es[j]?=some e->Mw[j]?=some o->El H D fl o e.1 e.2.1 e.2.2.1 e.2.2.2
 Kn:∀(j k:Nat) e e' o,j≠k->es[j]?=some e->es[k]?=some e'->Mw[j]?=some o->Rep (nj e'.1 e'.2.2.1 H) 5 (.ref e.1) (bD D o fl)
theorem OR.lt{H H':Hp}{D:Dk}{Mw fl:List Str}{es:List E4}(e:OR H D Mw fl es)(t:LT H H'):OR H' D Mw fl es:=
 ⟨λj x o h1 h2=>(e.own j x o h1 h2).lt t,λj k x x' o hn h1 h2 h3=>(e.Kn j k x x' o hn h1 h2 h3).lt (t.nj _ _)⟩
theorem OR.snoc{H Ha H1:Hp}{D:Dk}{Mw fl:List Str}{es:List E4}{o:Str}{h p b:Addr}{vs:List V}(E:OR H D Mw fl es)(ho:Mw[es.length]?=some o)(Mx:H h=none)(eHa:Ha=upd H h (.lst (gk (D.has o))))(s1:gh Ha H1)(pq:H1 p=none)
  (hv:Paired (λv f=>One Ha H1 (D.row o f) (D.jR o f) v) vs fl) (Fz:(upd H1 p (.lst vs)) b=none):OR (upd (upd H1 p (.lst vs)) b (.lst [.ref h,.ref p])) D Mw fl (es++[(b,h,p,vs)]):=by
 subst eHa
 have ZZ:gh H H1:=((gh.refl H).new (o:=.lst (gk (D.has o))) Mx).trans s1
 have s2:gh H1 (upd H1 p (.lst vs)):=(gh.refl H1).new pq
 have s3:gh (upd H1 p (.lst vs)) (upd (upd H1 p (.lst vs)) b (.lst [.ref h,.ref p])):=(gh.refl _).new Fz
 have sH:gh H (upd (upd H1 p (.lst vs)) b (.lst [.ref h,.ref p])):=(ZZ.trans s2).trans s3
 have Pb:H1 b=none:=s2.free Fz
 have hbH:H b=none:=ZZ.free Pb
 have D1:H p=none:=ZZ.free pq
 have WD:b≠p:=λe=>by rw[e,b_] at Fz;cases Fz
 have O_:H1 h=some (.lst (gk (D.has o))):=s1 _ _ b_
 have VL:gh H1 (nj b p (upd (upd H1 p (.lst vs)) b (.lst [.ref h,.ref p]))):=HU (s2.trans s3) Pb pq
 have new:El (upd (upd H1 p (.lst vs)) b (.lst [.ref h,.ref p])) D fl o b h p vs:=⟨b_,VL _ _ O_,s3 _ _ b_,Paired.i4 hv λv f m=>m.mn.lt (.of VL),WD⟩
 have at_:∀{j:Nat} {e:E4},(es++[(b,h,p,vs)])[j]?=some e->(j<es.length/\es[j]?=some e)\/(j=es.length/\e=(b,h,p,vs)):=λ{j e} hj=>by
  by_cases c:j<es.length
  ·rw[abT c] at hj;exact .inl ⟨c,hj⟩
  ·have hl:=(List.getElem?_eq_some_iff.mp hj).1
   rw[YN] at hl
   have hl:j<es.length+1:=hl
   have e1:j=es.length:=by omega
   subst e1
   rw[abk (XU _),Nat.sub_self] at hj
   exact .inr ⟨rfl,(aaE hj).symm⟩
 refine⟨λj e o' hj hs=>?_,λj k e e' o' hn hj hk hs=>?_⟩
 ·rcases at_ hj with⟨_,hj⟩|⟨rfl,rfl⟩
  ·exact(E.own j e o' hj hs).lt (.of sH)
  ·rw[ho] at hs
   cases hs
   exact new
 ·rcases at_ hj with⟨_,hj⟩|⟨e1,e2⟩
  ·rcases at_ hk with⟨_,hk⟩|⟨_,rfl⟩
   ·exact(E.Kn j k e e' o' hn hj hk hs).lt ((LT.of sH).nj _ _)
   ·exact(E.own j e o' hj hs).rep.same (HU sH hbH D1)
  ·subst e1 e2
   rw[ho] at hs
   cases hs
   rcases at_ hk with⟨_,hk⟩|⟨e1,_⟩
   ·obtain⟨o2,SJ⟩:∃o2,Mw[k]?=some o2:=by
     have h1:=(List.getElem?_eq_some_iff.mp hk).1
     have h2:=(List.getElem?_eq_some_iff.mp ho).1
     exact⟨_,UQ (by omega)⟩
    have ek:=E.own k e' o2 hk SJ
    have n1:∀{z:Addr} {u:HO},H z=none->(upd (upd H1 p (.lst vs)) b (.lst [.ref h,.ref p])) z=some u->nj e'.1 e'.2.2.1 (upd (upd H1 p (.lst vs)) b (.lst [.ref h,.ref p])) z=some u:=λhz hu=>by
     rw[mx (λc=>by rw[c,ek.hb] at hz;cases hz) (λc=>by rw[c,ek.hs] at hz;cases hz)];exact hu
    refine Dw (n1 hbH b_) (n1 Mx (s3 _ _ (s2 _ _ O_))) (n1 D1 (s3 _ _ b_)) (Paired.i4 hv λv f m=>m.away s1 (s2.trans s3) (l:=[.ref e'.2.1,.ref e'.2.2.1]) (l':=e'.2.2.2) ?_ ?_)
    ·rw[d_ (gg ek.hb Mx)];exact ek.hb
    ·rw[d_ (gg ek.hs Mx)];exact ek.hs
   ·exact absurd e1.symm hn
section
variable{A:Ad}{H:Hp}{fi u:Addr}{o:HO}{r l:List V}
theorem oj.ls{a:Addr}{ls:List Ln}(h:oj A H a ls)(hf:H fi=some (.lst (.ref u::r)))(hu:H u=some (.lst l)):oj A (upd H fi o) a ls:=by
 obtain⟨as,h1,h2⟩:=h
 have hn:a≠fi:=λe=>by
  subst e
  rw[hf] at h1
  injection aaE h1 with e
  cases h2 with
  | nil=>cases e
  | cons h3 _=>
   injection e with e1 _
   cases e1
   obtain⟨dx,vn,vu,vl,h4,_⟩:=h3
   rw[hu] at h4;cases h4
 exact⟨as,by rw[d_ hn];exact h1,Paired.i4 h2 λ_ _ z=>mH.upd z hf (λ_ z=>by cases z) (λ_ _ _ z=>by cases z)⟩
theorem vT.ls{a:Addr}{ns:List Nm}(h:vT H a ns)(hf:H fi=some (.lst (.ref u::r)))(hu:H u=some (.lst l)):vT (upd H fi o) a ns:=by
 obtain⟨vs,h1,h2⟩:=h
 have hn:a≠fi:=λe=>by
  subst e
  rw[hf] at h1
  injection aaE h1 with e
  subst e
  cases h2 with
  | cons h3 _=>
   obtain⟨t,e1,h4⟩:=h3
   cases e1
   rw[hu] at h4;cases h4
 exact⟨vs,by rw[d_ hn];exact h1,Paired.i4 h2 λ_ _ z=>z.upd hf (λ_ z=>by cases z)⟩
theorem ib.ls{d:Addr}{D:Dk}{W:Addr->Prop}(X:ib A H d D W)(hf:H fi=some (.lst (.ref u::r)))(hu:H u=some (.lst l)):ib A (upd H fi o) d D W:=by
 obtain⟨Y,x⟩:=X
 have nd:∀{a:Addr} {kv:List (Key×V)},H a=some (.dK kv)->(upd H fi o) a=some (.dK kv):=λh=>by rw[d_ (iS h hf λz=>by cases z)];exact h
 refine⟨Y,by rw[d_ (iS x.hd hf λz=>by cases z)];exact x.hd,nd x.hm,nd x.hn,nd x.hh,x.mn,x.mh,x.nh,x.wm,x.wn,x.wh,x.km,λp hp=>?_,x.kn,λy hy=>?_,x.kh,λs hs=>?_,x.inj,λb hb=>?_⟩
 ·obtain⟨a,e,dx,vf,pu,cu,vo,h0,h1,h2,h3,h4⟩:=x.vm p hp
  exact⟨a,e,dx,vf,pu,cu,vo,by rw[d_ (iS h0 hf λz=>by cases z)];exact h0,h1,h2.ls hf hu,h3.ls hf hu,h4⟩
 ·obtain⟨a,kv,l,h1,h2,h3,h4⟩:=x.vn y hy
  exact⟨a,kv,l,h1,h2,nd h3,h4⟩
 ·obtain⟨h1,h2,h3,h4,h5,kv,h6,h7⟩:=x.vh s hs
  exact⟨h1,h2,h3,h4,h5,kv,nd h6,h7⟩
 ·obtain⟨kv,e⟩:=x.dk b hb
  exact⟨kv,nd e⟩
end
theorem zl{H:Hp}{a:Addr}{n:Nat}(h:H a=some (.lst [])):Rep H (n+1) (.ref a) (.l []):=.l h rfl λj u d hu _=>by simp at hu
theorem Fu{Z Y:Type}{g:Z->List Y}{m:Nat}(h:∀i,(g i).length<=m):∀l:List Z,(l.flatMap g).length<=l.length*m
 | []=>aaY _
 | x::l=>by
  rw[aaV,YN,aah,Nat.succ_mul]
  have:=Fu h l
  have:=h x
  omega
theorem LF(lt:Nm->Nm->Prop)(row:List Ln):(jb lt row).length<=row.length*row.length:=by
 unfold jb
 refine aam (Fu (m:=row.length) (λi=>?_) _) ?_
 ·rw[O4]
  refine aam (aaX _ _) ?_
  rw[List.length_range']
  omega
 ·rw[abQ]
  exact XU _
theorem AH{row:List Ln}(nd:(row.map (·.nm)).Nodup){ps:List Int}(hp:∀p∈ps,0<=p):∀n,n<=row.length->ug row ps n=(row.take n).filter λl=>decide (l.nm∉ps.filterMap λp=>(row[p.toNat]?).map (·.nm))
 | 0,_=>rfl
 | n+1,h=>by
  obtain⟨l,hl⟩:∃l,row[n]?=some l:=⟨_,UQ (by omega)⟩
  have ih:=AH nd hp n (by omega)
  have key:(n:Int)∈ps↔l.nm∈ps.filterMap λp=>(row[p.toNat]?).map (·.nm):=by
   rw[abw]
   constructor
   ·exact λh=>⟨n,h,by rw[abP,hl];rfl⟩
   ·rintro⟨p,hm,e⟩
    obtain⟨l',yK,en⟩:=Option.map_eq_some_iff.mp e
    have g1:(row.map (·.nm))[p.toNat]?=some l'.nm:=by rw[aan,yK];rfl
    have g2:(row.map (·.nm))[n]?=some l.nm:=by rw[aan,hl];rfl
    have:=(abR (i:=p.toNat) (j:=n) (List.getElem?_eq_some_iff.mp g1).1 nd).mp (by rw[g1,g2,en])
    have:=hp p hm
    rw[show(n:Int)=p by omega]
    exact hm
  rw[take_snoc hl,aaH,<-ih]
  by_cases c:(n:Int)∈ps
  ·rw[HR c,aai (by rw[aaS];exact λz=>z (key.mp c)),aa2,aaZ]
  ·rw[HQ hl c,YR (by rw[aaS];exact λz=>c (key.mpr z)),aa2]
theorem Jn(ns:List Int):(qg ns).Nodup:=by
 unfold qg
 simp only [aa8,aag,ack,or_false,not_false_eq_true,abt,and_true]
 exact λz=>by
  have:=wb (by decide) (by decide) (by decide) (by decide) z
  omega
theorem LG{l:List Str}(nd:l.Nodup){i j:Nat}{a:Str}(hi:l[i]?=some a)(hj:l[j]?=some a):i=j:=
 (abR (List.getElem?_eq_some_iff.mp hi).1 nd).mp (hi.trans hj.symm)
theorem LH{H:Hp}{D D2:Dk}{o f:Str}{fl:List Str}{us:List V}{u:V}{j:Nat}(nd:fl.Nodup)(hj:fl[j]?=some f)(p:Paired (λv g=>Mn H v (D.row o g) (D.jR o g)) us fl)(hu:Mn H u (D2.row o f) (D2.jR o f))
  (Kn:∀g,g≠f->D2.row o g=D.row o g/\D2.jR o g=D.jR o g):Paired (λv g=>Mn H v (D2.row o g) (D2.jR o g)) (us.set j u) fl:=by
 refine pF (by rw[acq];exact aau p) λi v g hv hg=>?_
 rw[List.getElem?_set] at hv
 by_cases e:j=i
 ·subst e
  rw[hj] at hg
  cases hg
  rw[aax rfl] at hv
  split at hv
  ·cases hv;exact hu
  ·cases hv
 ·rw[aav e] at hv
  obtain⟨g',hg',m⟩:=ic p hv
  rw[hg] at hg'
  cases hg'
  have hn:g≠f:=λz=>e (LG nd hj (z▸hg))
  rw[(Kn g hn).1,(Kn g hn).2]
  exact m
theorem LI{D D2:Dk}{o:Str}{fl:List Str}(h:D2.has o=D.has o)(g:∀g,D2.row o g=D.row o g/\D2.jR o g=D.jR o g):bD D2 o fl=bD D o fl:=by
 unfold bD OM
 have e:(fl.map λf=>Dv.l [Jd (D2.row o f),Sd (D2.jR o f)])=fl.map λf=>Dv.l [Jd (D.row o f),Sd (D.jR o f)]:=ab5 λf _=>by rw[(g f).1,(g f).2]
 rw[h,e]
theorem NY{H:Hp}{R:Str->List Ln}{U:Str->List (Nat×Nat)}{us:List V}{f0:Str}{r:List Str}(p:Paired (λv g=>Mn H v (R g) (U g)) us (f0::r)):∃u0 r' l,us=.ref u0::r'/\H u0=some (.lst l):=by
 cases p with
 | cons m _=>
  obtain⟨u,_,_,_,rfl,h,_⟩:=m
  exact⟨u,_,_,rfl,h⟩
section
variable{P:Program}{w:World}{K:Qqy}{mg:Qqx}{base:Heap}{A:Ad}
def HV(K:Qqy):Sp:=λvs H Q _=>∃(a:Addr)(ns:List Int),vs=[.ref a]/\gC K H a (ns.map V.int)/\ns.length<=63/\∀H',Q (.bl true) H'
theorem Q9{f:Addr}{fd:FuncData}(F:xT K "law" "law" zW f fd)(T:Txt mg)(O:Ok K mg A):ig P w K mg base mK 20 f fd ["script"] (HV K):=by
 have FJ:=@NO P w K mg base A T O
 have iM:=@HG P w K mg base A T O
 have mJ:=@HH P w K mg base A T O
 have sX:=@HI P w K mg base A T O
 have sY:=@NV P w K mg base A T O
 have m_:=@yH P w K mg base A T O
 have xI:=@Du P w K mg base A T O
 have jA:=(@GK P w K mg base A T O).FP
 have oe:=(@GL P w K mg base A T O).FP
 have kl:=(@sR P w K mg base A T O).FP
 have pe:=(@Cd P w K mg base A T O).FP
 have uH:=(@Lg P w K mg base A T O).FP
 refine F.rA jN λju A0 outer s H vs Q E hr h=>?_
 obtain⟨a,ns,rfl,ha,hn,q⟩:=h
 have sz:sizeLine=16777216:=aaP
 refine⟨_,(de (ly (i:=1) jN.nd rfl (Or.inr rfl) (og O.B5 FJ hr (a_ (pv 0) (a_ f_ (a_ (gp iz (og O.i9 iM hr (a_ (pv 0) (a_ f_ e_))) f_) (a_ kc e_))))))
   (de (ly (i:=2) jN.nd rfl (Or.inr rfl) (kK (pv 1) f_))
   (de (iD aaM rfl (jT rfl T.lr (a_ (gp iy f_ (gp iz (og O.i9 iM hr (a_ (pv 0) (a_ f_ e_))) f_)) e_)) (tL 3 jN) (de (k7 4 jN (og O.i9 iM hr (a_ (pv 0) (a_ (gp iy f_ (pv 3)) e_))))
   (de (k7 5 jN (kK (kK (pv 1) f_) (gp iz (pv 4) f_)))
   (de (k7 6 jN (gp iz (gp jk (pv 4) f_) f_))
   (de (k7 7 jN (og O.p6 mJ hr (a_ (gp iz (og O.i9 iM hr (a_ (pv 0) (a_ f_ e_))) f_) (a_ (gp iy f_ (pv 3)) e_))))
   (de (BQ (j:=8) ET (gb zW).names [14] jN.nd rfl rfl rfl (ie (kK (pv 1) f_)) rfl (by decide+kernel) (λ_ _ _ _=>(iu (i:=14) jN.nd rfl (Or.inl rfl))) (λ_ _ _ _=>lM) (λ_ _ _ _=>zb (iB (a_ (xV (pv 2) O.gE O.k8 jA hr (a_ (pv 14) e_)) (a_ (og O.tE sY hr (a_ (pv 2) (a_ (pv 14) (a_ (kK (pv 1) f_) e_)))) e_)))))
   (de (ly (i:=9) jN.nd rfl (Or.inr rfl) (kK (kK (kK (pv 8) (gp iz (pv 4) f_)) f_) (pv 6)))
   (de (qk (ip (hX (J7 9 (by exact OD hr)) (kK (pv 9) f_) (iB e_) (iA _)) (de (k7 10 jN (og O.xo sX hr (a_ (tS ET (gb zW).names [16] rfl (ie (kK (pv 9) f_)) rfl (by decide+kernel) (λ_ _ _ _=>(iu (i:=16) jN.nd rfl (Or.inl rfl))) (λ_ _ _ _=>lM) (λ_ _ _ _=>zb (jq kT (pv 16) f_ (λ_ _=>rfl)))) (a_ (gp jk (pv 4) f_) e_))))
   (de (hV (xV (pv 2) O.gE O.sD pe hr (a_ (pv 5) (a_ (pv 7) (a_ (kK (kK (pv 1) f_) (pv 6)) (a_ (wG va (by rfl) T.xl ab7 (a_ (pv 10) e_)) e_))))))
   (de (k7 11 jN (xV (pv 2) O.gE O.vS oe hr (a_ (pv 5) (a_ (kK (kK (pv 1) f_) (pv 6)) e_))))
   (de (ip (PW.pt (pw_or (kC (lx (og O.o6 m_ hr (a_ (pv 11) e_)))) (pw_or1 (hX (CG 9 (by exact OD hr)) (tS ET (gb zW).names [16] rfl (ie (pv 11)) rfl (by decide+kernel) (λ_ _ _ _=>(iu (i:=16) jN.nd rfl (Or.inl rfl))) (λ_ _ _ _=>lM) (λ_ _ _ _=>zb (jq kT (pv 16) f_ (λ_ _=>rfl)))) (pv 10) (iA _))))) (fR (hG kc)) hU)
   (fR (ip (hX (CG 9 (by exact OD hr)) (xV (pv 2) O.gE O.mz kl hr (a_ (pv 5) (a_ (kK (kK (pv 1) f_) (pv 6)) e_))) (iB e_) (iA _)) (fR (hG kc)) hU)))))) (de (k7 12 jN (gp iz (gp jk (pv 4) f_) (gz gq (by rfl) T.jx aaL (a_ (kK (pv 9) f_) e_))))
   (de (k7 13 jN (iB (a_ (pv 12) (a_ (gp iy (gp iy (pv 12) f_) (gp iz (gp jk (pv 4) f_) f_)) e_))))
   (de (wK (j:=13) ET (gb zW).names [17] jN.nd rfl rfl rfl (ie (pv 13)) rfl (by decide+kernel) (λ_ _ _ _=>(iu (i:=17) jN.nd rfl (Or.inl rfl))) (λ_ _ _ _=>⟨_,nM (hX Ed (pv 17) (gz gq (by rfl) T.jx aaL (a_ (kK (pv 9) f_) e_)) (iA _)),by(try simp only [kO]);rfl⟩) (λ_ _ _ _=>zb (pv 17)))
   (de (hV (xV (pv 2) O.gE O.Ao uH hr (a_ (pv 5) (a_ (pv 7) (a_ (kK (kK (pv 1) f_) (pv 6)) (a_ (pv 13) e_))))))
   (fR (ip (kC (lx (og O.sE xI hr (a_ (pv 9) (a_ (kK (og O.tE sY hr (a_ (pv 2) (a_ (pv 5) (a_ (kK (pv 1) f_) e_)))) (pv 6)) (a_ (pv 13) e_)))))) (fR (hG kc)) hU))))))))
   (fR (iD aaM rfl (jT rfl T.lr (a_ f_ e_)) (tL 14 jN) (de (k7 15 jN (iB (a_ (xV (pv 2) O.gE O.k8 jA hr (a_ (kK (kK (pv 1) f_) (pv 14)) e_)) (a_ (og O.tE sY hr (a_ (pv 2) (a_ (kK (kK (pv 1) f_) (pv 14)) (a_ (kK (pv 1) f_) e_)))) e_))))
   (de (qk (ip (hX mB (pv 14) (gp iz (pv 4) f_) (iA _)) (de (wB (gp mO (kK (kK (pv 8) (pv 14)) f_) (iB (a_ (pv 7) e_))) (wA (kK (pv 8) (pv 14)) f_ set_list))
   (fR (wB (kK (kK (pv 15) f_) (pv 6)) (wA (kK (kK (pv 8) (pv 14)) f_) (pv 6) set_list)))) hU))
   (fR (ip (hX (CG 9 (by exact OD hr)) (pv 15) (kK (pv 8) (pv 14)) (iA _)) (fR (hG kc)) hU))))))))))))))
   (fR (hG kc))))),?_⟩
 refine OE ?_;intro _ _ _
 have b7:=mod_lt (cellAt ns 4) 13 (by decide)
 obtain⟨n,Pg⟩:∃n:Nat,cellAt ns 4%13=(n:Int):=⟨_,(abG b7.1).symm⟩
 refine⟨_,rfl,_,rfl,a,ns,4,rfl,ha,by decide,_,_,rfl,rfl,(by show(0:Int)<13;decide),a,ns,10,n,true,?_,ha,by omega,by decide,by decide,by omega,λbl d ss fs D0 W H1 B=>?_⟩
 ·show[V.ref a,V.int 10,V.int (cellAt ns 4%13),V.bl true]=_
  rw[Pg]
 have n7:n<13:=by omega
 have Pl:∀{Ha Hb:Hp},gh H Ha->oW W Ha Hb->gh H Hb:=λs s' b o e=>s' b o (s _ _ e) λhb=>by rw[B.own b hb] at e;cases e
 refine⟨_,rfl,bl,_,_,_,rfl,rfl,gC.of B.at_,gs (j:=0) rfl rfl,?_⟩
 have b5:=mod_lt (cellAt ns 5) 4 (by decide)
 obtain⟨m,hm⟩:∃m:Nat,1+cellAt ns 5%4=(m:Int):=⟨_,(abG (by omega)).symm⟩
 dsimp only [l7];refine Jz ?_;intro _
 let Jv:=λ(k:Nat) (Z:St) (H2:Hp)=>∃(v3 v4 v5 v6 v7 v8 v9 v10 v11 Ma G_ FK Hc FT Ib:Option V)(D:Dk),Z=[rr a,rr bl,rr d,v3,v4,v5,v6,v7,v8,v9,v10,v11,Ma,G_,FK,Hc,FT,Ib]/\gh H H2/\H2 bl=some (.lst [.ref d,.ref ss,.ref fs])/\H2 ss=some (.lst (gk (rC ns)))/\H2 fs=some (.lst (gk (qg ns)))/\ib A H2 d D W/\Inv D/\Sz (n+k) D/\D.stores=rC ns/\∀x∈D.names,∃j:Nat,(j<13\/30<=j/\j<30+k)/\x=nameOf (yY ns 3) j
 refine⟨_,rfl,a,ns,5,rfl,nH ha B.same,by decide,_,_,rfl,rfl,(by show(0:Int)<4;decide),_,_,rfl,rfl,_,rfl,by omega,by omega,lB Jv
  ⟨none,none,none,none,none,none,none,none,none,none,none,none,none,none,none,D0,rfl,B.same,B.at_,B.st,B.fl,B.Yh,B.inv,B.sz,B.stores,λx hx=>by obtain⟨j,hj,e⟩:=B.names x hx;exact⟨j,.inl (by omega),e⟩⟩ ?_ ?_⟩
 ·rintro k Z H2 hk ⟨v3,v4,v5,v6,v7,v8,v9,v10,v11,Ma,G_,FK,Hc,FT,Ib,D,rfl,s2,kb,RT,Oj,X2,I2,z2,Dz,RU⟩
  have hk:k<4:=by omega
  rw[show(0:Int)+(k:Int)=(k:Int) by omega]
  have sm:=z2.small (by omega)
  obtain⟨Y2,y2⟩:=id X2
  refine⟨_,rfl,_,rfl,_,_,rfl,rfl,a,ns,_,rfl,nH ha s2,by omega,?_⟩
  generalize cellAt ns (6+(k:Int))=c
  have bc:=mod_lt c 3 (by decide)
  obtain⟨ci,Z0⟩:∃ci:Nat,c%3=(ci:Int):=⟨_,(abG bc.1).symm⟩
  have hc3:ci<(rC ns).length:=by show ci<3;omega
  obtain⟨st,uG⟩:∃st,(rC ns)[ci]?=some st:=⟨_,UQ hc3⟩
  have VM:=XY uG
  have uP:st∈D.stores:=by rw[Dz];exact VM
  have fst:=(sT st VM).uE
  refine⟨_,rfl,bl,_,_,_,rfl,rfl,gC.of kb,gs (j:=1) rfl rfl,_,rfl,_,_,rfl,rfl,(by show(0:Int)<3;decide),ss,_,_,_,rfl,rfl,gC.of RT,gs Z0 (j4 uG),?_⟩
  have b2:=mod_lt (c/3) 2 (by decide)
  obtain⟨ai,hai⟩:∃ai:Nat,c/3%2=(ai:Int):=⟨_,(abG b2.1).symm⟩
  have ha2:ai<(qg ns).length:=by show ai<2;omega
  obtain⟨fl,Jw⟩:∃fl,(qg ns)[ai]?=some fl:=⟨_,UQ ha2⟩
  have Z1:=XY Jw
  have W_:=Fl fl Z1
  refine⟨_,rfl,_,_,rfl,rfl,⟨by decide,by decide⟩,_,_,rfl,rfl,(by show(0:Int)<2;decide),?_⟩
  dsimp only
  rw[hai]
  refine⟨_,rfl,a,ns,3,rfl,nH ha s2,by decide,_,_,rfl,rfl,(by show(0:Int)<20736;decide),_,rfl,_,_,rfl,rfl,_,_,rfl,?_⟩
  have gx:=qb (yY ns 3) (30+(k:Int))
  have Z2:nameOf (yY ns 3) (30+(k:Int))=nameOf (yY ns 3) ((30+k:Nat):Int):=by rw[show(30:Int)+(k:Int)=((30+k:Nat):Int) by omega]
  have fresh:nameOf (yY ns 3) (30+(k:Int))∉D.names:=λhm=>by
   obtain⟨j,hj,e⟩:=RU _ hm
   have:=wb (by omega) (by omega) (by omega) (by omega) e
   omega
  show _
  generalize hx:nameOf (cellAt ns 3%20736) (30+(k:Int))=x
  have gx:Good x:=hx▸gx
  have fresh:x∉D.names:=hx▸fresh
  have Z2:x=nameOf (yY ns 3) ((30+k:Nat):Int):=hx▸Z2
  let Jv:=λ(i:Nat) (ys:List V) (Z:St) (H3:Hp)=>∃(FK:Option V)(es:List E4),Z=[rr a,rr bl,rr d,ri k,ri c,rs st,ri ai,rs x,v8,v9,v10,v11,Ma,G_,FK,Hc,FT,Ib]/\gh H2 H3/\ys=es.map (λe=>V.ref e.1)/\es.length=i/\(∀e∈es,H2 e.1=none/\H2 e.2.2.1=none)/\OR H3 D (rC ns) (qg ns) es
  refine⟨_,rfl,bl,_,_,_,rfl,rfl,gC.of kb,gs (j:=1) rfl rfl,ss,rfl,⟨_,gC.of RT⟩,jE (K:=K) (a:=ss) (xs:=gk (rC ns)) (by rw[O4];show 3<=_;omega) Jv
   ⟨none,[],rfl,gh.refl _,rfl,rfl,λe he=>(by cases he),⟨λj e o h=>(by simp at h),λj k e e' o _ h=>(by simp at h)⟩⟩ (by rintro _ _ _ _ _ ⟨_,es,_,e1,e2,e3,_⟩;exact⟨gC.of (e1 _ _ RT),by rw[e2,O4];omega⟩) ?_ ?_⟩
  ·rintro i v ys Z H3 hv ⟨FK,es,rfl,s3,rfl,VN,Z3,E⟩
   obtain⟨so,L6,rfl⟩:=lO hv
   have Jx:=XY L6
   have L7:so∈D.stores:=by rw[Dz];exact Jx
   have VO:=(sT so Jx).uE
   refine⟨_,rfl,d,Y2.dx,_,rfl,s3 _ _ y2.hd,qN,_,rfl,d,D,W,so,rfl,X2.same s3,VO,sm.many,λh=>absurd L7 h,λ_ h Mx=>?_⟩
   have s4:gh H3 (upd H3 h (.lst (gk (D.has so)))):=(gh.refl H3).new Mx
   refine⟨_,rfl,_,rfl,_,rfl,bl,_,_,_,rfl,rfl,gC.of (s4 _ _ (s3 _ _ kb)),gs (j:=2) rfl rfl,d,fs,D,W,so,qg ns,rfl,(X2.same s3).same s4,I2,sm,L7,VO,s4 _ _ (s3 _ _ Oj),(by show 2<=1000;decide),λp H5 vs s5 pq hv=>⟨L2.jM,λb Fz=>?_⟩⟩
   have Z4:=s4.trans s5
   have s6:=(Z4.new (o:=.lst vs) pq).new (o:=.lst [.ref h,.ref p]) Fz
   refine⟨_,es++[(b,h,p,vs)],rfl,s3.trans s6,by rw[aaG];rfl,by rw[YN,VN];rfl,λe he=>?_,OR.snoc E (by rw[VN];exact L6) Mx rfl s5 pq hv Fz⟩
   rcases aak.mp he with he|he
   ·exact Z3 e he
   ·rw[XS.mp he]
    exact⟨(s3.trans (Z4.new (o:=.lst vs) pq)).free Fz,(s3.trans Z4).free pq⟩
  rintro ys Z H3 ⟨v14',es,rfl,s3,rfl,VN,Z3,E⟩ Bf Xa
  have VN:es.length=3:=VN
  have s4:=s3.new (o:=.lst (es.map λe=>V.ref e.1)) Xa
  have w4:gh H3 (upd H3 Bf (.lst (es.map λe=>V.ref e.1))):=(gh.refl H3).new Xa
  have u4:(upd H3 Bf (.lst (es.map λe=>V.ref e.1))) Bf=some (.lst (es.map λe=>V.ref e.1)):=b_
  have Z5:=E.lt (.of w4)
  obtain⟨⟨b,h,sv,us⟩,RV⟩:∃e,es[ci]?=some e:=⟨_,UQ (by omega)⟩
  have hBb:Bf≠b:=λe=>by
   have:=(E.own ci _ st RV uG).hb
   rw[<-e,Xa] at this;cases this
  have hBs:Bf≠sv:=λe=>by
   have:=(E.own ci _ st RV uG).hs
   rw[<-e,Xa] at this;cases this
  generalize upd H3 Bf (.lst (es.map λe=>V.ref e.1))=H4 at s4 w4 u4 Z5
  obtain⟨JD,Fv⟩:=Z3 _ (XY RV)
  have own:=Z5.own ci _ st RV uG
  have Ro:(es.map λe=>V.ref e.1)[ci]?=some (V.ref b):=by rw[aan,RV];rfl
  obtain⟨u,hu,mn⟩:=ir own.hu Jw
  refine⟨_,rfl,_,rfl,_,_,rfl,rfl,(by show(0:Int)<3;decide),Bf,_,_,_,rfl,rfl,gC.of u4,gs Z0 Ro,b,_,_,_,rfl,rfl,gC.of own.hb,gs (j:=1) rfl rfl,_,rfl,sv,_,_,_,rfl,rfl,gC.of own.hs,gs rfl hu,?_⟩
  have mn4:=mn.lt (.of jf)
  obtain⟨ua,r,qa,qv,rfl,g1,BA,g3,g4⟩:=id mn4
  have HZ:=aau g4
  have Dx:=z2.row I2 st fl
  have X4:=X2.same s4
  refine⟨λZ H6=>∃(v10 v11 Ma G_ FK Hc FT Ib:Option V)(p:Pt),Z=[rr a,rr bl,rr d,ri k,ri c,rs st,ri ai,rs x,rr Bf,rr ua,v10,v11,Ma,G_,FK,Hc,FT,Ib]/\Cg D st fl x p/\LT H4 H6/\gh H H6/\ib A H6 d (D.keep st p) W/\Inv (D.keep st p)/\Sz (n+k+1) (D.keep st p),?_,?_⟩
  ·refine⟨_,rfl,ua,_,_,_,rfl,rfl,gC.of g1,gs (j:=1) rfl rfl,L2.jM,λe0 he0=>?_⟩
   have w5:=(gh.refl H4).new (o:=.lst []) he0
   have u5:(upd H4 e0 (.lst [])) e0=some (.lst []):=b_
   generalize upd H4 e0 (.lst [])=H5 at w5 u5
   have X5:=X4.same w5
   obtain⟨vr,xF,zo⟩:=id BA
   have Vz:=aau zo
   have Z6:=w5 _ _ xF
   have g15:=w5 _ _ g1
   have Z7:=w5 _ _ g3
   by_cases hq:D.jR st fl=[]
   ·have Z8:qv=[]:=by
     rw[hq] at HZ
     exact aaQ.mp HZ.symm
    rw[Z8] at Z7
    refine⟨_,⟨qa,e0,rfl,rfl⟩,Rep.eq (zl (n:=8) Z7) (zl u5),_,rfl,lK ?_⟩
    let Jv:=λ(j:Nat) (ys:List V) (Z:St) (H8:Hp)=>∃(FT:Option V),Z=[rr a,rr bl,rr d,ri k,ri c,rs st,ri ai,rs x,rr Bf,rr ua,v10,v11,Ma,G_,FK,Hc,FT,Ib]/\H8=H5/\ys=gk (((D.row st fl).take j).map (·.tx))
    refine⟨_,rfl,ua,_,_,_,rfl,rfl,gC.of g15,gs (j:=0) rfl rfl,r,rfl,⟨_,gC.of Z6⟩,jE (K:=K) (a:=r) (xs:=vr) (by omega) Jv
     ⟨_,rfl,rfl,rfl⟩ (by rintro _ _ _ _ _ ⟨_,_,e,e2⟩;rw[e,e2];exact⟨gC.of Z6,by rw[O4,O4,aaO];omega⟩) ?_ ?_⟩
    ·rintro j v ys Z H8 hv ⟨FT,rfl,rfl,rfl⟩
     obtain⟨ln,tP,t,rfl,ht⟩:=ic zo hv
     refine⟨_,rfl,t,_,_,_,rfl,rfl,ox.of (w5 _ _ ht),gs (j:=2) rfl rfl,_,rfl,rfl,?_⟩
     rw[take_snoc tP,aaG,iZ]
     rfl
    rintro ys Z H8 ⟨v16',rfl,rfl,rfl⟩ tl N6
    rw[Vz,aaD]
    have w8:=(gh.refl H8).new (o:=.lst (gk ((D.row st fl).map (·.tx)))) N6
    have u8:(upd H8 tl (.lst (gk ((D.row st fl).map (·.tx))))) tl=some (.lst (gk ((D.row st fl).map (·.tx)))):=b_
    generalize upd H8 tl (.lst (gk ((D.row st fl).map (·.tx))))=H9 at w8 u8
    refine⟨_,rfl,_,_,rfl,rfl,⟨by decide,by decide⟩,tl,(D.row st fl).map (·.tx),_,rfl,u8,by rw[O4];omega,λt y6 ts Z9 VP ed=>?_⟩
    have w:=(w5.trans w8).trans Z9
    have Rp:=ed.len
    rw[O4] at Rp
    have X10:=X4.same w
    obtain⟨Y10,y10⟩:=id X10
    have Z_:=w _ _ (s4 _ _ kb)
    have aaa:=w _ _ (s4 _ _ Oj)
    refine⟨_,rfl,d,Y10.dx,_,rfl,y10.hd,Ca,_,rfl,_,rfl,_,rfl,bl,_,_,_,rfl,rfl,gC.of Z_,gs (j:=2) rfl rfl,_,rfl,fs,_,_,_,rfl,rfl,gC.of aaa,gs rfl (j4 Jw),_,rfl,t,_,rfl,.inl (gC.of VP),λtc htc=>?_⟩
    have Ol:=w.new (o:=.lst (gk ts)) htc
    have Pn:(upd y6 tc (.lst (gk ts))) tc=some (.lst (gk ts)):=b_
    have Om:=hZ (u:=.lst (gk ts)) htc VP
    generalize upd y6 tc (.lst (gk ts))=Ia at Ol Pn Om
    have VQ:=X4.same Ol
    refine⟨d,tc,D,W,st,x,fl,ts,rfl,VQ,I2,sm,aam z2.ix (by omega),fst,gx.uE,W_.uE,Pn,by omega,λh=>absurd uP h,λ_ h=>absurd ⟨gx,W_⟩ h,λ_ _ _ h=>absurd h fresh,λ_ _ _ _ h=>absurd hq h,λ_ _ _ _ _ h=>absurd h ed.ne,λ_ _ _ _ _ _ FU RW SQ=>?_⟩
    have rtx:=(Fn I2 uP fresh hq ts).tx
    have rqu:=(Fn I2 uP fresh hq ts).qu
    have I3:=I2.record uP fresh hq ts
    have z3:=z2.keep st (Ce (x:=x) (f:=fl) ed) (aam qP.2 (by omega))
    have cg:Cg D st fl x (jW x fl (D.row st fl) ts):=Jk ts
    generalize jW x fl (D.row st fl) ts=p at RW rtx rqu I3 z3 cg
    have Xb:st∈(D.keep st p).stores:=uP
    have Xc:=z3.small (by omega)
    have aab:=z3.row I3 st fl
    have DE:=(LT.of Ol).trans (LT.x VQ SQ)
    have D3:=Pl ((s2.trans s4).trans Ol) SQ
    have Jy:=SQ _ _ Om (VQ.lst Om)
    have VR:=DE.1 _ _ (s4 _ _ kb)
    have VS:=DE.1 _ _ (s4 _ _ Oj)
    obtain⟨Y12,y12⟩:=id RW
    refine⟨_,rfl,d,Y12.dx,_,rfl,y12.hd,GJ,_,rfl,_,rfl,bl,_,_,_,rfl,rfl,gC.of VR,gs (j:=2) rfl rfl,_,rfl,fs,_,_,_,rfl,rfl,gC.of VS,gs rfl (j4 Jw),d,D.keep st p,W,st,fl,rfl,RW,fst,Xc,I3,λh=>absurd Xb h,λ_ r2 H13 w13 hr20 N_=>?_⟩
    refine⟨_,rfl,.ref r2,2,(D.keep st p).row st fl,rfl,N_.rep,_,rfl,jg ?_⟩
    obtain⟨es2,Xd,he2⟩:=id N_
    have aac:=aau he2
    let Jv:=λ(j:Nat) (ys:List V) (Z:St) (SR:Hp)=>∃(FT:Option V),Z=[rr a,rr bl,rr d,ri k,ri c,rs st,ri ai,rs x,rr Bf,rr ua,rr t,rr r2,Ma,G_,FK,Hc,FT,Ib]/\SR=H13/\ys=gk ((((D.keep st p).row st fl).take j).map (·.tx))
    refine⟨_,rfl,r2,rfl,⟨_,gC.of Xd⟩,jE (K:=K) (a:=r2) (xs:=es2) (by omega) Jv
     ⟨_,rfl,rfl,rfl⟩ (by rintro _ _ _ _ _ ⟨_,_,e,e2⟩;rw[e,e2];exact⟨gC.of Xd,by rw[O4,O4,aaO];omega⟩) ?_ ?_⟩
    ·rintro j v ys Z SR hv ⟨FT,rfl,rfl,rfl⟩
     obtain⟨ln,tP,t',rfl,ht⟩:=ic he2 hv
     refine⟨_,rfl,t',_,_,_,rfl,rfl,ox.of ht,gs (j:=2) rfl rfl,_,rfl,rfl,?_⟩
     rw[take_snoc tP,aaG,iZ]
     rfl
    rintro ys Z SR ⟨v16'',rfl,rfl,rfl⟩ tm htm
    rw[aac,aaD,rtx]
    have w14:=(gh.refl SR).new (o:=.lst (gk ts)) htm
    have u14:(upd SR tm (.lst (gk ts))) tm=some (.lst (gk ts)):=b_
    generalize upd SR tm (.lst (gk ts))=H15 at w14 u14
    have SS:=w13.trans w14
    refine⟨_,rfl,_,⟨tm,t,rfl,rfl⟩,Rep.eq (Rep.strs (n:=8) u14) (Rep.strs (SS _ _ Jy)),_,rfl,jg ?_⟩
    refine⟨_,rfl,d,Y12.dx,_,rfl,SS _ _ y12.hd,sP,_,rfl,_,rfl,bl,_,_,_,rfl,rfl,gC.of (SS _ _ VR),gs (j:=2) rfl rfl,_,rfl,fs,_,_,_,rfl,rfl,gC.of (SS _ _ VS),gs rfl (j4 Jw),d,D.keep st p,W,st,fl,rfl,RW.same SS,fst,Xc,I3,λh=>absurd Xb h,λ_ c2 H16 qs2 w16 SF LW SN=>⟨L2.jM,λe1 Xd=>?_⟩⟩
    have aad:qs2=[]:=by
     have:=aau SN
     rw[rqu] at this
     exact aaQ.mp this.symm
    rw[aad] at LW
    have w17:=(gh.refl H16).new (o:=.lst []) Xd
    refine⟨_,⟨c2,e1,rfl,rfl⟩,Rep.eq (zl (n:=8) (w17 _ _ LW)) (zl b_),_,rfl,jg ?_⟩
    have w18:=(SS.trans w16).trans w17
    exact⟨_,_,_,_,_,_,_,_,p,rfl,cg,DE.trans (.of w18),D3.trans w18,RW.same w18,I3,z3⟩
   ·have Z8:qv≠[]:=λe=>hq (aaQ.mp (by rw[HZ,e];rfl))
    refine⟨_,⟨qa,e0,rfl,rfl⟩,.J4 (gC.of Z7) (gC.of u5) (λe=>Z8 (aaQ.mp e)),_,rfl,jg ?_⟩
    obtain⟨q0,L8⟩:=List.exists_mem_of_ne_nil _ hq
    have L8:=(qc (lt:=Ah (gm (D.jQ st) fl)) (i:=q0.1) (j:=q0.2)).mp L8
    have hz:0<vr.length:=by omega
    have b9:=mod_lt (c/6) (vr.length:Int) (by omega)
    obtain⟨f0,WZ⟩:∃f0:Nat,c/6%(vr.length:Int)=(f0:Int):=⟨_,(abG b9.1).symm⟩
    refine⟨_,rfl,_,_,rfl,rfl,⟨by decide,by decide⟩,_,rfl,ua,_,_,_,rfl,rfl,gC.of g15,gs (j:=0) rfl rfl,r,_,rfl,.inl (gC.of Z6),_,_,rfl,rfl,by omega,?_⟩
    dsimp only
    rw[WZ] at b9 ⊢
    have b97:=mod_lt (c/97) 3 (by decide)
    obtain⟨dd,O2⟩:∃dd:Nat,c/97%3=(dd:Int):=⟨_,(abG b97.1).symm⟩
    refine⟨_,rfl,_,rfl,_,_,rfl,rfl,_,rfl,_,_,rfl,rfl,⟨by decide,by decide⟩,_,_,rfl,rfl,(by show(0:Int)<3;decide),_,_,rfl,rfl,L2.jM,?_⟩
    dsimp only
    rw[O2] at b97 ⊢
    intro SU aaf
    have epl:[V.int (f0:Int),V.int ((f0:Int)+1+(dd:Int))]=[(f0:Int),(f0:Int)+1+(dd:Int)].map V.int:=rfl
    rw[epl]
    have O7:∀z∈[(f0:Int),(f0:Int)+1+(dd:Int)],(f0:Int)<=z/\z<=(f0:Int)+3:=λz hz=>by
     rcases aag.mp hz with e|hz
     ·omega
     ·have:=XS.mp hz;omega
    have okp:NI ((D.row st fl).length:Int) 0 ([(f0:Int),(f0:Int)+1+(dd:Int)].filter λz=>decide (z<(vr.length:Int))):=by
     rw[YR (by rw[aaS];omega)]
     refine⟨by omega,?_⟩
     by_cases z:(f0:Int)+1+(dd:Int)<(vr.length:Int)
     ·rw[YR (by rw[aaS];exact z)]
      exact⟨by omega,trivial⟩
     ·rw[aai (by rw[aaS];exact z)]
      exact trivial
    have Vt:([(f0:Int),(f0:Int)+1+(dd:Int)].filter λz=>decide (z<(vr.length:Int)))≠[]:=λe=>by
     rw[YR (by rw[aaS];omega)] at e
     cases e
    have VT:([(f0:Int),(f0:Int)+1+(dd:Int)].filter λz=>decide (z<(vr.length:Int))).length<=2:=aaX _ _
    have VU:[(f0:Int),(f0:Int)+1+(dd:Int)].length=2:=rfl
    generalize [(f0:Int),(f0:Int)+1+(dd:Int)]=pa at O7 okp Vt VT VU
    have w6:=w5.new (o:=.lst (pa.map V.int)) aaf
    have u6:(upd H5 SU (.lst (pa.map V.int))) SU=some (.lst (pa.map V.int)):=b_
    generalize upd H5 SU (.lst (pa.map V.int))=H6 at w6 u6
    have g16:=w6 _ _ g1
    have hr6:=w6 _ _ xF
    let Jv:=λ(j:Nat) (ys:List V) (Z:St) (H8:Hp)=>∃(Ib:Option V),Z=[rr a,rr bl,rr d,ri k,ri c,rs st,ri ai,rs x,rr Bf,rr ua,v10,v11,ri f0,rr SU,FK,Hc,FT,Ib]/\H8=H6/\ys=((pa.take j).filter λz=>decide (z<(vr.length:Int))).map V.int
    refine⟨_,rfl,SU,rfl,⟨_,gC.of u6⟩,jE (K:=K) (a:=SU) (xs:=pa.map V.int) (by rw[O4];omega) Jv
     ⟨_,rfl,rfl,rfl⟩ (by rintro _ _ _ _ _ ⟨_,_,e,e2⟩;rw[e,e2];exact⟨gC.of u6,by rw[O4];exact aam (aaX _ _) (by rw[aaO];omega)⟩) ?_ ?_⟩
    ·rintro j v ys Z H8 hv ⟨Ib,rfl,rfl,rfl⟩
     rw[aan] at hv
     obtain⟨pj,hpj,rfl⟩:=Option.map_eq_some_iff.mp hv
     refine⟨_,rfl,_,rfl,ua,_,_,_,rfl,rfl,gC.of g16,gs (j:=0) rfl rfl,r,_,rfl,.inl (gC.of hr6),_,_,rfl,rfl,_,rfl,kZ (λhz=>?_) (λhz=>?_)⟩
     ·have hz:decide (pj<(vr.length:Int))=true:=hz
      refine⟨_,rfl,_,rfl,rfl,?_⟩
      rw[take_snoc hpj,aaH,YR (p:=λz=>decide (z<(vr.length:Int))) hz,aaG]
      rfl
     ·have hz:¬decide (pj<(vr.length:Int))=true:=hz
      refine⟨_,rfl,rfl,?_⟩
      rw[take_snoc hpj,aaH,aai (p:=λz=>decide (z<(vr.length:Int))) hz,aa2,aaZ]
    rintro ys Z H8 ⟨v17',rfl,rfl,rfl⟩ pl nJ
    rw[O4,aaD]
    have G2:∀z∈pa.filter (λz=>decide (z<(vr.length:Int))),(0:Int)<=z/\z<(D.row st fl).length:=λz hz=>by
     obtain⟨h1,h2⟩:=aao.mp hz
     have:=O7 z h1
     have:=aaA h2
     omega
    generalize pa.filter (λz=>decide (z<(vr.length:Int)))=ps at okp Vt VT G2 nJ
    have w7:=w6.new (o:=.lst (ps.map V.int)) nJ
    have u7:(upd H8 pl (.lst (ps.map V.int))) pl=some (.lst (ps.map V.int)):=b_
    generalize upd H8 pl (.lst (ps.map V.int))=H7 at w7 u7
    have X7:=X4.same w7
    obtain⟨Y7,y7⟩:=id X7
    have VV:=w7 _ _ (s4 _ _ kb)
    have kf7:=w7 _ _ (s4 _ _ Oj)
    refine⟨_,rfl,d,Y7.dx,_,rfl,y7.hd,Lb,_,rfl,_,rfl,_,rfl,bl,_,_,_,rfl,rfl,gC.of VV,gs (j:=2) rfl rfl,_,rfl,fs,_,_,_,rfl,rfl,gC.of kf7,gs rfl (j4 Jw),_,rfl,d,pl,D,W,st,x,fl,ps,rfl,X7,I2,sm,fst,gx.uE,W_.uE,u7,by omega,λp hp=>?_,λh=>absurd uP h,λ_ h=>absurd ⟨gx,W_⟩ h,λ_ _ _ h=>absurd h fresh,λ_ _ _ _ h=>absurd okp h,λ_ _ _ _ h=>absurd h Vt,λ_ _ _ _ _ _ H9 X9 w9=>?_⟩
    ·have:=G2 p hp
     refine aby (m:=108) ?_ (by decide)
     exact aam (Nat.log2_le_self _) (by omega)
    have qR:∀n∈ps.filterMap (λp=>((D.row st fl)[p.toNat]?).map (·.nm)),n∈(D.row st fl).map (·.nm):=λn hn=>by
     obtain⟨pl,_,nJ⟩:=abw.mp hn
     obtain⟨l',yK,rfl⟩:=Option.map_eq_some_iff.mp nJ
     exact aae (XY yK)
    have I3:=I2.cut (x:=x) uP fresh qR
    have z3:=z2.keep st (p:=⟨x,some fl,[],ps.filterMap λp=>((D.row st fl)[p.toNat]?).map (·.nm),none⟩) (aaY _) (aam (acg _ _) (by omega))
    have cg:Cg D st fl x ⟨x,some fl,[],ps.filterMap λp=>((D.row st fl)[p.toNat]?).map (·.nm),none⟩:=Q3 qR
    have pm:=(Fo I2 uP fresh qR).1
    have Sx:((D.row st fl).map (·.nm)).Nodup:=((I2.kF st fl).map _).nodup_iff.mpr (I2.wX st fl)
    have edu:=AH Sx (λp hp=>(G2 p hp).1) (D.row st fl).length (XU _)
    rw[aaD] at edu
    rw[<-edu] at pm
    have cqu:=λi j=>@Lw D st fl x I2 uP fresh _ qR i j
    generalize (⟨x,some fl,[],ps.filterMap λp=>((D.row st fl)[p.toNat]?).map (·.nm),none⟩:Pt)=p at X9 I3 z3 cg pm cqu
    have Xb:st∈(D.keep st p).stores:=uP
    have Xc:=z3.small (by omega)
    have aab:=z3.row I3 st fl
    have lt9:=(LT.of w7).trans (LT.x X7 w9)
    have s9:=Pl ((s2.trans s4).trans w7) w9
    have u9:=w9 _ _ u7 (X7.lst u7)
    have kb9:=lt9.1 _ _ (s4 _ _ kb)
    have kf9:=lt9.1 _ _ (s4 _ _ Oj)
    refine⟨_,rfl,_,rfl,_,rfl,_,rfl,bl,_,_,_,rfl,rfl,gC.of kb9,gs (j:=2) rfl rfl,d,fs,D.keep st p,W,st,qg ns,rfl,X9,I3,Xc,Xb,fst,kf9,(by show 2<=1000;decide),λXe y6 Mb Z9 VW aaj=>?_⟩
    have Ol:=Z9.new (o:=.lst Mb) VW
    have Pn:(upd y6 Xe (.lst Mb)) Xe=some (.lst Mb):=b_
    have Po:=(gh.refl y6).new (o:=.lst Mb) VW
    generalize upd y6 Xe (.lst Mb)=Ia at Ol Pn Po
    obtain⟨vn,hvn,on⟩:=ir aaj Jw
    have Mc:=lt9.trans (.of Ol)
    refine⟨_,rfl,Xe,_,_,_,rfl,rfl,gC.of Pn,gs rfl hvn,_,rfl,.ref ua,vn,pl,D.row st fl,(D.keep st p).row st fl,D.jR st fl,(D.keep st p).jR st fl,ps,rfl,mn4.lt Mc,on.mn.lt (.of Po),Ol _ _ u9,by omega,by omega,?_,λq hq=>?_,pm,cqu,λFU SQ=>⟨_,rfl,jg ?_⟩⟩
    ·refine aam (LF _ _) (aam (Nat.mul_le_mul Dx Dx) ?_)
     have:3*(n+k)<=48:=by omega
     exact aam (Nat.mul_le_mul this this) (by decide)
    ·have:=(qc (lt:=Ah (gm (D.jQ st) fl)) (i:=q.1) (j:=q.2)).mp hq
     omega
    have Pp:=Ol.trans SQ
    exact⟨_,_,_,_,_,_,_,_,p,rfl,cg,Mc.trans (.of SQ),s9.trans Pp,X9.same Pp,I3,z3⟩
  rintro Z H6 ⟨v10,v11,Ma,G_,FK,Hc,FT,Ib,p,rfl,cg,lt6,s6,X6,I6,z6⟩
  have Hd:p.nm∉D.names:=by rw[cg.nm];exact fresh
  have RX:(D.keep st p).stores=rC ns:=Dz
  have VX:(D.keep st p).has st=D.has st++[x]:=by rw[Ls Hd,cg.nm]
  have VY:∀o∈rC ns,o≠st->bD (D.keep st p) o (qg ns)=bD D o (qg ns):=λo ho oa=>LI (AG I2 (by rw[Dz];exact ho) oa Hd).1 (AG I2 (by rw[Dz];exact ho) oa Hd).2
  have VZ:∀g,g≠fl->(D.keep st p).row st g=D.row st g/\(D.keep st p).jR st g=D.jR st g:=λg hg=>cg.G0 I2 fresh hg
  have sm6:=z6.small (by omega)
  have V0:∀y∈(D.keep st p).names,∃j:Nat,(j<13\/30<=j/\j<30+(k+1))/\y=nameOf (yY ns 3) j:=λy hy=>by
   rw[qQ,aak,XS,cg.nm] at hy
   rcases hy with hy|rfl
   ·obtain⟨j,hj,e⟩:=RU y hy
    exact⟨j,by omega,e⟩
   ·exact⟨30+k,by omega,Z2⟩
  generalize D.keep st p=D2 at X6 I6 z6 RX VX VY VZ sm6 V0
  have hHb:H b=none:=s2.free JD
  have hHs:H sv=none:=s2.free Fv
  have kbh:nj b sv H4 bl=some (.lst [.ref d,.ref ss,.ref fs]):=by rw[mx (gg kb JD) (gg kb Fv)];exact s4 _ _ kb
  have ksh:nj b sv H4 ss=some (.lst (gk (rC ns))):=by rw[mx (gg RT JD) (gg RT Fv)];exact s4 _ _ RT
  have kfh:nj b sv H4 fs=some (.lst (gk (qg ns))):=by rw[mx (gg Oj JD) (gg Oj Fv)];exact s4 _ _ Oj
  have kBh:nj b sv H4 Bf=some (.lst (es.map λe=>V.ref e.1)):=by rw[mx hBb hBs];exact u4
  have hhl:(D.has st).length<=100:=by
   rw[Dk.qx,O4]
   exact aam (aaX _ _) (aam z2.many (by omega))
  refine⟨_,rfl,by decide,by decide,?_⟩
  let Jv:=λ(i:Nat) (Z:St) (H7:Hp)=>∃(FK Hc:Option V)(lb ls:List V),Z=[rr a,rr bl,rr d,ri k,ri c,rs st,ri ai,rs x,rr Bf,rr ua,v10,v11,Ma,G_,FK,Hc,FT,Ib]/\gh H H7/\ib A H7 d D2 W/\LT (nj b sv H4) (nj b sv H7)/\H7 b=some (.lst lb)/\H7 sv=some (.lst ls)/\(i<=ci->lb=[.ref h,.ref sv]/\ls=us)
  refine lB (n:=3) Jv
   ⟨FK,Hc,_,_,rfl,s6,X6,lt6.nj b sv,lt6.1 _ _ own.hb,lt6.1 _ _ own.hs,λ_=>⟨rfl,rfl⟩⟩ ?_ ?_
  ·rintro i Z H7 hi ⟨FK,Hc,lb,ls,rfl,s7,X7,Pq,FH,Md,hle⟩
   rw[show(0:Int)+(i:Int)=(i:Int) by omega]
   obtain⟨Y7,y7⟩:=id X7
   obtain⟨so,L6⟩:∃so,(rC ns)[i]?=some so:=⟨_,UQ hi⟩
   obtain⟨e,hei⟩:∃e,es[i]?=some e:=⟨_,UQ (by omega)⟩
   have Jx:=XY L6
   have V1:so∈D2.stores:=by rw[RX];exact Jx
   have VO:=(sT so Jx).uE
   have VV:=jf _ _ (Pq.1 _ _ kbh)
   have ks7:=jf _ _ (Pq.1 _ _ ksh)
   have kf7:=jf _ _ (Pq.1 _ _ kfh)
   refine⟨_,rfl,d,Y7.dx,_,rfl,y7.hd,qN,_,rfl,bl,_,_,_,rfl,rfl,gC.of VV,gs (j:=1) rfl rfl,_,rfl,ss,_,_,_,rfl,rfl,gC.of ks7,gs rfl (j4 L6),d,D2,W,so,rfl,X7,VO,sm6.many,λh=>absurd V1 h,λ_ h' Mx=>?_⟩
   have t8:gh H7 (upd H7 h' (.lst (gk (D2.has so)))):=(gh.refl H7).new Mx
   have u8:(upd H7 h' (.lst (gk (D2.has so)))) h'=some (.lst (gk (D2.has so))):=b_
   generalize upd H7 h' (.lst (gk (D2.has so)))=H8 at t8 u8
   refine⟨_,rfl,_,rfl,bl,_,_,_,rfl,rfl,gC.of (t8 _ _ VV),gs (j:=1) rfl rfl,_,rfl,ss,_,_,_,rfl,rfl,gC.of (t8 _ _ ks7),gs rfl (j4 L6),_,rfl,bl,_,_,_,rfl,rfl,gC.of (t8 _ _ VV),gs (j:=2) rfl rfl,d,fs,D2,W,so,qg ns,rfl,X7.same t8,I6,sm6,V1,VO,t8 _ _ kf7,(by show 2<=1000;decide),λp9 H9 Pr t9 hp9 hv9=>⟨L2.jM,λnw Vs=>?_⟩⟩
   have Oo:gh H9 (upd (upd H9 p9 (.lst Pr)) nw (.lst [.ref h',.ref p9])):=((gh.refl H9).new hp9).new Vs
   have u9:(upd (upd H9 p9 (.lst Pr)) nw (.lst [.ref h',.ref p9])) p9=some (.lst Pr):=hZ Vs b_
   have SO:(upd (upd H9 p9 (.lst Pr)) nw (.lst [.ref h',.ref p9])) nw=some (.lst [.ref h',.ref p9]):=b_
   have V2:H7 nw=none:=((t8.trans t9).new (o:=.lst Pr) hp9).free Vs
   have V3:H7 p9=none:=(t8.trans t9).free hp9
   generalize upd (upd H9 p9 (.lst Pr)) nw (.lst [.ref h',.ref p9])=y6 at Oo u9 SO
   have RY:=(t8.trans t9).trans Oo
   have nf:∀{z:Addr} {o:HO},H7 z=none->y6 z=some o->nj b sv y6 z=some o:=λhz hu=>by
    rw[mx (λc=>by rw[c,FH] at hz;cases hz) (λc=>by rw[c,Md] at hz;cases hz)];exact hu
   have mns:Paired (λv f=>Mn (nj b sv y6) v (D2.row so f) (D2.jR so f)) Pr (qg ns):=Paired.i4 hv9 λv f m=>m.away t9 Oo (t8 _ _ FH) (t8 _ _ Md)
   have rp:Rep (nj b sv y6) 5 (.ref nw) (bD D2 so (qg ns)):=Dw (nf V2 SO) (nf Mx (Oo _ _ (t9 _ _ u8))) (nf V3 u9) mns
   have V4:LT (nj b sv H4) (nj b sv y6):=Pq.trans (.of (qd RY))
   have FH:=RY _ _ FH
   have Md:=RY _ _ Md
   refine⟨λZ Ia=>∃(lb ls:List V),Z=[rr a,rr bl,rr d,ri k,ri c,rs st,ri ai,rs x,rr Bf,rr ua,v10,v11,Ma,G_,ri i,rr nw,FT,Ib]/\gh H Ia/\ib A Ia d D2 W/\LT (nj b sv H4) (nj b sv Ia)/\Ia b=some (.lst lb)/\Ia sv=some (.lst ls)/\(i+1<=ci->lb=[.ref h,.ref sv]/\ls=us)/\Rep Ia 5 (.ref nw) (bD D2 so (qg ns))/\Rep Ia 5 (.ref e.1) (bD D2 so (qg ns)),?_,?_⟩
   ·refine⟨_,rfl,_,rfl,_,_,rfl,rfl,(by show(0:Int)<3;decide),rfl,_,rfl,kZ (λhz=>?_) (λhz=>?_)⟩
    ·have hz:=V.int.inj (aaA hz)
     have hz:ci=i:=by omega
     subst hz
     have ee:(b,h,sv,us)=e:=aaE (RV.symm.trans hei)
     subst ee
     have eo:st=so:=aaE (uG.symm.trans L6)
     subst eo
     rw[(hle (XU _)).1] at FH
     rw[(hle (XU _)).2] at Md
     obtain⟨vn,hvn,mvn⟩:=ir mns Jw
     obtain⟨u0,r0,l0,eus,hu0⟩:=NY (show Paired _ _ (nameOf (yY ns 1) 0::[nameOf (yY ns 1) 1]) from own.hu)
     have V5:=jf _ _ (V4.1 _ _ kBh)
     refine⟨_,rfl,_,rfl,Bf,_,_,_,rfl,rfl,gC.of V5,gs rfl Ro,b,_,_,_,rfl,rfl,gC.of FH,gs (j:=0) rfl rfl,_,rfl,L2.jM,λl1 N5=>?_⟩
     have Om:gh y6 (upd y6 l1 (.lst [.str x])):=(gh.refl y6).new N5
     have Pn:(upd y6 l1 (.lst [.str x])) l1=some (.lst [.str x]):=b_
     generalize upd y6 l1 (.lst [.str x])=Ia at Om Pn
     have aaq:=Om _ _ (jf _ _ (V4.1 _ _ own.hh))
     refine⟨h,l1,_,_,rfl,rfl,aaq,Pn,by rw[O4];show _+1<=_;omega,λcc Sh=>?_⟩
     rw[show gk (D.has st)++[V.str x]=gk (D2.has st) by rw[VX,iZ]]
     have Jy:=Om.new (o:=.lst (gk (D2.has st))) Sh
     have u12:(upd Ia cc (.lst (gk (D2.has st)))) cc=some (.lst (gk (D2.has st))):=b_
     have hcb:cc≠b:=(gg (Om _ _ FH) Sh).symm
     have Wy:cc≠sv:=(gg (Om _ _ Md) Sh).symm
     generalize upd Ia cc (.lst (gk (D2.has st)))=FU at Jy u12
     have DE:=V4.trans (.of (qd Jy))
     have aar:=jf _ _ (DE.1 _ _ own.hh)
     have V6:=Jy _ _ FH
     have RW:=(X7.same (RY.trans Jy)).ls (o:=.lst [.ref cc,.ref sv]) V6 aar
     refine⟨_,rfl,_,rfl,Bf,_,_,_,rfl,rfl,gC.of (Jy _ _ V5),gs rfl Ro,b,_,_,0,rfl,rfl,V6,wR rfl (by show 0<2;decide),?_⟩
     show _
     have V7:nj b sv (upd FU b (.lst [.ref cc,.ref sv]))=nj b sv FU:=HS (.inl rfl)
     have u13:(upd FU b (.lst [.ref cc,.ref sv])) b=some (.lst [.ref cc,.ref sv]):=b_
     have V8:(upd FU b (.lst [.ref cc,.ref sv])) sv=some (.lst us):=by rw[d_ own.ne.symm];exact Jy _ _ Md
     have L4:gh H (upd FU b (.lst [.ref cc,.ref sv])):=((s7.trans RY).trans Jy).upd hHb
     have aas:(upd FU b (.lst [.ref cc,.ref sv])) nw=some (.lst [.ref h',.ref p9]):=jf (x:=b) (y:=sv) _ _ (by rw[V7];exact qd Jy _ _ (nf V2 SO))
     have p13:(upd FU b (.lst [.ref cc,.ref sv])) p9=some (.lst Pr):=jf (x:=b) (y:=sv) _ _ (by rw[V7];exact qd Jy _ _ (nf V3 u9))
     have aat:(upd FU b (.lst [.ref cc,.ref sv])) Bf=some (.lst (es.map λe=>V.ref e.1)):=jf (x:=b) (y:=sv) _ _ (by rw[V7];exact DE.1 _ _ kBh)
     refine⟨_,rfl,nw,_,_,_,rfl,rfl,gC.of aas,gs (j:=1) rfl rfl,_,rfl,p9,_,_,_,rfl,rfl,gC.of p13,gs rfl hvn,_,rfl,_,rfl,Bf,_,_,_,rfl,rfl,gC.of aat,gs rfl Ro,b,_,_,_,rfl,rfl,gC.of u13,gs (j:=1) rfl rfl,_,rfl,sv,_,_,ai,rfl,rfl,V8,wR rfl (by rw[aau own.hu];exact ha2),?_⟩
     have e14:nj b sv (upd (upd FU b (.lst [.ref cc,.ref sv])) sv (.lst (us.set ai vn)))=nj b sv FU:=(HS (.inr rfl)).trans V7
     have b14:(upd (upd FU b (.lst [.ref cc,.ref sv])) sv (.lst (us.set ai vn))) b=some (.lst [.ref cc,.ref sv]):=by rw[d_ own.ne];exact u13
     have X13:=RW.ls (o:=.lst (us.set ai vn)) (u:=u0) (r:=r0) (l:=l0) (V8.trans (abd (λz=>some (HO.lst z)) eus)) (jf (x:=b) (y:=sv) _ _ (by rw[V7];exact DE.1 _ _ hu0))
     have sb:gh (nj b sv FU) (upd (upd FU b (.lst [.ref cc,.ref sv])) sv (.lst (us.set ai vn))):=e14▸jf
     refine⟨_,_,rfl,L4.upd hHs,X13,(e14▸DE:LT (nj b sv H4) (nj b sv (upd (upd FU b (.lst [.ref cc,.ref sv])) sv (.lst (us.set ai vn))))),b14,b_,λz=>absurd z (by omega),(rp.same (qd Jy)).same sb,Dw b14 (sb _ _ (by rw[mx hcb Wy];exact u12)) b_ (LH (Jn ns) Jw (Paired.i4 own.hu λv f m=>(m.lt DE).lt (.of sb)) ((mvn.lt (.of (qd Jy))).lt (.of sb)) VZ)⟩
    ·have hz:i≠ci:=λe=>hz (by rw[e,<-Z0];exact XZ rfl)
     refine⟨lb,ls,rfl,s7.trans RY,X7.same RY,V4,FH,Md,λz=>hle (by omega),rp.same jf,?_⟩
     rw[VY so Jx λz=>hz (LG (Cf ns) L6 (z▸uG))]
     exact((Z5.Kn i ci e _ so hz hei RV L6).lt V4).same jf
   rintro Z Ia ⟨lb,ls,rfl,s11,VQ,Mc,FH,Md,hle,r1,r2⟩
   have SA:(es.map λe=>V.ref e.1)[i]?=some (V.ref e.1):=by rw[aan,hei];rfl
   exact⟨_,rfl,_,rfl,_,rfl,Bf,_,_,_,rfl,rfl,gC.of (jf _ _ (Mc.1 _ _ kBh)),gs rfl SA,_,⟨nw,e.1,rfl,rfl⟩,Rep.eq (r1.mono (by decide)) (r2.mono (by decide)),_,rfl,jg ⟨_,_,lb,ls,rfl,s11,VQ,Mc,FH,Md,hle⟩⟩
  rintro Z H7 ⟨FK,Hc,lb,ls,rfl,s7,X7,Pq,FH,Md,hle⟩
  exact⟨_,_,_,_,_,_,_,_,_,_,_,_,_,_,_,D2,rfl,s7,jf _ _ (Pq.1 _ _ kbh),jf _ _ (Pq.1 _ _ ksh),jf _ _ (Pq.1 _ _ kfh),X7,I6,z6,RX,V0⟩
 ·rintro Z H2 ⟨v3,v4,v5,v6,v7,v8,v9,v10,v11,Ma,G_,FK,Hc,FT,Ib,D,rfl,s2,kb,RT,Oj,X2,I2,z2,Dz,RU⟩
  exact q H2
end
end PK
namespace TW
open PySem PySem.W L2 PK
noncomputable section
noncomputable abbrev S:=Str.ofString
noncomputable abbrev ob:=Obj.mk
noncomputable abbrev v(x:String)(t:Nat):Value:=.str (S x) t
noncomputable abbrev r:=Value.ref
noncomputable abbrev vi:=Value.int
noncomputable abbrev i(n:Int):=Value.int n 0
noncomputable abbrev vn:=Value.none
noncomputable abbrev w:=Value.type
noncomputable abbrev b:=Value.builtin
noncomputable abbrev vl:=Value.bool
noncomputable abbrev cl:=ClassData.mk
noncomputable abbrev k:=@some Value
noncomputable abbrev d(P:Params)(x:String)(t:Nat)(y:Value):DictEntry:=.mk (PyData.keyHash P (S x)) (v x t) y
noncomputable abbrev x:=top
noncomputable abbrev y(i j:Nat):=inClass (top i) j
noncomputable abbrev n:=BT.node
noncomputable abbrev z:=BT.nil
noncomputable abbrev f(o:Obj):BT:=n o z z
noncomputable abbrev of(c:String)(l:List Value):Obj:=ob (w c) none (.fields l.toArray) #[]
noncomputable abbrev tp(l:List Value):Obj:=ob (w "tuple") none (.seq l.toArray 0) #[]
noncomputable abbrev fl(l:List Value):Obj:=ob vn none (.fields l.toArray) #[]
noncomputable abbrev l3(l:List (Int×Int×Addr)):Obj:=fl (l.flatMap λ(a,b,c)=>[i a,i b,r c])
noncomputable abbrev fd(n q:Str)(st:Stmt)(g:Addr)(c:List (Str×Addr))(d kd doc pm:Value)(an:Option Addr)(co ct:Value)(b:Addr):FuncData:=⟨n,q,oB st,.stmts (lg st),gb st,g,c,d,kd,doc,pm,an,co,ct,b⟩
noncomputable abbrev fn(a b:String)(st:Stmt)(m:String)(t:Nat)(c:Addr):Obj:=ob (w "function") none (.func (fd (S a) (S b) st 3 [] vn vn vn (v m t) none (r c) vn 0)) #[]
noncomputable abbrev fv(a b:String)(st:Stmt):Obj:=ob vn none (.func (fd (S a) (S b) st 0 [] vn vn vn vn none vn vn 0)) #[]
noncomputable abbrev dt(l:List DictEntry)(c:Nat):Obj:=ob (w "dict") none (.dict l.toArray c) #[]
noncomputable abbrev fr(l:List (Option Value)):Obj:=ob (w "frame") none .plain l.toArray
noncomputable abbrev ty(c:ClassData)(l:List (Option Value)):Obj:=ob (w "type") none (.cls c) l.toArray
noncomputable abbrev o0:Addr->Value|0=>vn|a+1=>r (a+1)
noncomputable abbrev co(a b:String)(t:Nat)(l p q:Int)(c:Addr)(g:Int)(ys:List Addr)(u:Nat):Obj:=of "code" ([v a t,v b (t+1),v "/claim/cut.py" (t+2),i l,i p,i 0,i 0,i q,r c,vl true,i g]++ys.map o0++[i u,i l,v "/claim/cut.py" (u+1)])
noncomputable def g7(P:Params):List DictEntry:=[(d P "__doc__" 166 vn),(d P "__package__" 167 vn),(d P "__loader__" 168 (b "__main__.__loader__#opaque")),(d P "__spec__" 169 vn),(d P "__annotations__" 170 (r 6)),(d P "__builtins__" 171 (r 4)),(d P "__file__" 173 (v "/claim/cut.py" 172)),(d P "__cached__" 174 vn),(d P "_wall" 193 (r 21)),(d P "counts_with" 206 (r 28)),(d P "most_pairs" 212 (r 33)),(d P "place_from" 222 (r 40)),(d P "kept" 235 (r 47)),(d P "PatchError" 255 (r 57))]
def g8(P:Params):List DictEntry:=g7 P++[(d P "BadName" 271 (r 70))]
def g9(P:Params):List DictEntry:=g8 P++[(d P "NameTaken" 287 (r 82))]
def ha(P:Params):List DictEntry:=g9 P++[(d P "NoStore" 303 (r 94))]
def hb(P:Params):List DictEntry:=ha P++[(d P "NoPatch" 319 (r 106))]
def hc(P:Params):List DictEntry:=hb P++[(d P "NoLine" 335 (r 118))]
def hd(P:Params):List DictEntry:=hc P++[(d P "Unsettled" 351 (r 130))]
def he(P:Params):List DictEntry:=hd P++[(d P "Same" 367 (r 142))]
def hf(P:Params):List DictEntry:=he P++[(d P "Leant" 383 (r 154))]
def hg(P:Params):List DictEntry:=hf P++[(d P "Line" 420 (r 173))]
def hh(P:Params):List DictEntry:=hg P++[(d P "Patch" 457 (r 194)),(d P "lines_named_by" 463 (r 203)),(d P "leans_straight_on" 469 (r 208)),(d P "live_patches" 479 (r 215)),(d P "lines_put" 489 (r 222)),(d P "standing_lines" 495 (r 227)),(d P "files_with_lines" 501 (r 232))]
def hi(P:Params):List DictEntry:=hh P++[(d P "straight_ahead" 510 (r 239)),(d P "joined" 520 (r 246)),(d P "all_ahead" 526 (r 251)),(d P "first_free" 534 (r 258)),(d P "row_of" 540 (r 263))]
def hj(P:Params):List DictEntry:=hi P++[(d P "Sight" 604 (r 308)),(d P "NAME_SIGNS" 608 (v "abcdefghijklmnopqrstuvwxyz0123456789" 607)),(d P "LONGEST_NAME" 610 (vi 12 609))]
def hk(P:Params):List DictEntry:=hj P++[(d P "check_name" 618 (r 319)),(d P "check_places" 628 (r 326)),(d P "kept_behind" 638 (r 333)),(d P "new_lines" 652 (r 340)),(d P "changing_patch" 658 (r 345))]
def hl(P:Params):List DictEntry:=hk P++[(d P "Desk" 861 (r 502))]
def hm(P:Params):List DictEntry:=hl P++[(d P "_law_cell_at" 871 (r 513)),(d P "_law_draw" 881 (r 520)),(d P "_law_name" 895 (r 527)),(d P "_law_text" 901 (r 532)),(d P "_law_edit" 915 (r 539)),(d P "_law_deed" 921 (r 544)),(d P "_law_desk" 927 (r 549)),(d P "_law_whole" 934 (r 556)),(d P "_law_row_form" 942 (r 563)),(d P "_law_pairs_form" 950 (r 570)),(d P "_law_seen" 956 (r 575)),(d P "_law_cut_right" 962 (r 580)),(d P "law" 968 (r 585))]
def aa:Obj:=tp []
def ab:Obj:=fl []
def ac:Obj:=of "builtin_function_or_method" [(b "type.__prepare__"),(w "type")]
def ad:Obj:=tp [(r 57)]
def ae:Obj:=of "code" [(v "<module>" 182),(v "<module>" 183),(v "/claim/cut.py" 184),(i 1),(i 0),(i 0),(i 0),(i 0),(r 11),(vl false),(i 181),(r 12),vn,vn,vn,vn,(i 185),(i 1),(v "/claim/cut.py" 186)]
def af:Obj:=fr [(k (r 13)),(k (r 3)),(k (r 3)),none,(k (v "__main__" 164)),none,(k (r 0))]
noncomputable def ag:Obj:=fn "kept" "kept" (x 5) "patchkin.differ" 194 46
def ah:Obj:=co "place_from" "place_from" 213 18 3 3 34 181 [35,0,36,37,38] 220
def ai:Obj:=co "counts_with" "counts_with" 196 5 3 3 22 181 [23,0,24,25,26] 204
noncomputable def aj:Obj:=tp [(v "old" 226),(v "new" 227),(v "table" 228),(v "pairs" 229),(v "start" 230),(v "first" 231),(v "second" 232)]
def ak:Obj:=tp [(v "k" 190)]
def al:Obj:=fn "most_pairs" "most_pairs" (x 3) "patchkin.differ" 194 32
def am:Obj:=fn "_wall" "_wall" (x 0) "__main__" 164 20
def an:Obj:=co "most_pairs" "most_pairs" 207 13 2 3 29 181 [30,0,0,0,31] 210
def ao:Obj:=tp [(w "ValueError")]
def ap:Obj:=tp [(v "text" 199),(v "new" 200),(v "below" 201),(v "counts" 202),(v "second" 203)]
def aq:Obj:=fn "place_from" "place_from" (x 4) "patchkin.differ" 194 39
def ar(P:Params):Obj:=dt [(d P "__module__" 245 (v "patchkin.errors" 236)),(d P "__firstlineno__" 249 (vi 34 248)),(d P "__static_attributes__" 250 (r 55)),(d P "__weakref__" 252 (r 58)),(d P "__doc__" 253 vn)] 3
def au:Obj:=co "_wall" "_wall" 187 1 1 3 15 181 [16,0,17,18,19] 191
noncomputable def av:Obj:=tp [(v "texts" 216),(v "text" 217),(v "start" 218),(v "place" 219)]
def aw:Obj:=fn "counts_with" "counts_with" (x 2) "patchkin.differ" 194 27
def ax:Obj:=of "getset_descriptor" [(v "__weakref__" 251),(r 57),(b "ExceptionGroup.__weakref__"),vn]
noncomputable def ay:Obj:=co "kept" "kept" 223 23 2 3 41 181 [42,0,43,44,45] 233
def az:Obj:=fv "most_pairs" "most_pairs" (x 3)
def aA:Obj:=fv "_wall" "_wall" (x 0)
def aB:Obj:=of "super" [(r 57),(r 57),(r 57)]
def aC(P:Params):Obj:=dt [(d P "__module__" 263 (v "patchkin.errors" 236)),(d P "__firstlineno__" 267 (vi 36 266)),(d P "__static_attributes__" 268 (r 68)),(d P "__doc__" 269 vn)] 2
def aD:Obj:=of "code" [(v "PatchError" 240),(v "PatchError" 241),(v "/claim/cut.py" 242),(i 34),(i 0),(i 0),(i 0),(i 0),(r 51),(vl false),(i 181),(r 52),vn,vn,vn,vn,(i 243),(i 34),(v "/claim/cut.py" 244)]
noncomputable def aE:Obj:=fv "kept" "kept" (x 5)
def aF:Obj:=of "builtin_function_or_method" [(b "object.__init_subclass__"),(r 57)]
def aG(P:Params):Obj:=dt [(d P "__module__" 245 (v "patchkin.errors" 236)),(d P "__qualname__" 247 (v "PatchError" 246)),(d P "__firstlineno__" 249 (vi 34 248)),(d P "__static_attributes__" 250 (r 55))] 4
def aH:Obj:=fv "counts_with" "counts_with" (x 2)
def aI:Obj:=fv "place_from" "place_from" (x 4)
def aJ:Obj:=ty (cl (S "BadName") [(r 57)] [(r 70),(r 57),(w "ValueError"),(w "Exception"),(w "BaseException"),(w "object")] 69 (S "BadName") true [] [] false none false) [(k (r 61)),none,(k (v "BadName" 256)),(k (v "BadName" 264)),(k (b "ValueError.__new__")),(k (vl true))]
def aK:Obj:=fr [(k (r 53)),(k (r 3)),(k (r 50)),none,(k (v "patchkin.errors" 236)),none,(k (r 0))]
def aL(P:Params):Obj:=dt [(d P "__module__" 263 (v "patchkin.errors" 236)),(d P "__qualname__" 265 (v "BadName" 264)),(d P "__firstlineno__" 267 (vi 36 266)),(d P "__static_attributes__" 268 (r 68))] 4
def aM:Obj:=of "super" [(r 70),(r 70),(r 70)]
def aN:Obj:=fr [(k (r 66)),(k (r 3)),(k (r 63)),none,(k (v "patchkin.errors" 236)),none,(k (r 0))]
def aO(P:Params):Obj:=dt [(d P "__module__" 279 (v "patchkin.errors" 236)),(d P "__firstlineno__" 283 (vi 38 282)),(d P "__static_attributes__" 284 (r 80)),(d P "__doc__" 285 vn)] 2
def aP:Obj:=of "builtin_function_or_method" [(b "object.__init_subclass__"),(r 70)]
def aQ:Obj:=of "code" [(v "BadName" 258),(v "BadName" 259),(v "/claim/cut.py" 260),(i 36),(i 0),(i 0),(i 0),(i 0),(r 64),(vl false),(i 181),(r 65),vn,vn,vn,vn,(i 261),(i 36),(v "/claim/cut.py" 262)]
def aR:Obj:=ty (cl (S "NameTaken") [(r 57)] [(r 82),(r 57),(w "ValueError"),(w "Exception"),(w "BaseException"),(w "object")] 81 (S "NameTaken") true [] [] false none false) [(k (r 73)),none,(k (v "NameTaken" 272)),(k (v "NameTaken" 280)),(k (b "ValueError.__new__")),(k (vl true))]
def aS:Obj:=fr [(k (r 78)),(k (r 3)),(k (r 75)),none,(k (v "patchkin.errors" 236)),none,(k (r 0))]
def aT:Obj:=of "super" [(r 82),(r 82),(r 82)]
def aU(P:Params):Obj:=dt [(d P "__module__" 279 (v "patchkin.errors" 236)),(d P "__qualname__" 281 (v "NameTaken" 280)),(d P "__firstlineno__" 283 (vi 38 282)),(d P "__static_attributes__" 284 (r 80))] 4
def aV:Obj:=of "builtin_function_or_method" [(b "object.__init_subclass__"),(r 82)]
def aW:Obj:=of "code" [(v "NameTaken" 274),(v "NameTaken" 275),(v "/claim/cut.py" 276),(i 38),(i 0),(i 0),(i 0),(i 0),(r 76),(vl false),(i 181),(r 77),vn,vn,vn,vn,(i 277),(i 38),(v "/claim/cut.py" 278)]
def aX(P:Params):Obj:=dt [(d P "__module__" 295 (v "patchkin.errors" 236)),(d P "__firstlineno__" 299 (vi 40 298)),(d P "__static_attributes__" 300 (r 92)),(d P "__doc__" 301 vn)] 2
def aY:Obj:=ty (cl (S "NoStore") [(r 57)] [(r 94),(r 57),(w "ValueError"),(w "Exception"),(w "BaseException"),(w "object")] 93 (S "NoStore") true [] [] false none false) [(k (r 85)),none,(k (v "NoStore" 288)),(k (v "NoStore" 296)),(k (b "ValueError.__new__")),(k (vl true))]
def aZ:Obj:=of "super" [(r 94),(r 94),(r 94)]
def a0(P:Params):Obj:=dt [(d P "__module__" 295 (v "patchkin.errors" 236)),(d P "__qualname__" 297 (v "NoStore" 296)),(d P "__firstlineno__" 299 (vi 40 298)),(d P "__static_attributes__" 300 (r 92))] 4
def a1:Obj:=fr [(k (r 90)),(k (r 3)),(k (r 87)),none,(k (v "patchkin.errors" 236)),none,(k (r 0))]
def a2(P:Params):Obj:=dt [(d P "__module__" 311 (v "patchkin.errors" 236)),(d P "__firstlineno__" 315 (vi 42 314)),(d P "__static_attributes__" 316 (r 104)),(d P "__doc__" 317 vn)] 2
def a3:Obj:=of "builtin_function_or_method" [(b "object.__init_subclass__"),(r 94)]
def a4:Obj:=ty (cl (S "NoPatch") [(r 57)] [(r 106),(r 57),(w "ValueError"),(w "Exception"),(w "BaseException"),(w "object")] 105 (S "NoPatch") true [] [] false none false) [(k (r 97)),none,(k (v "NoPatch" 304)),(k (v "NoPatch" 312)),(k (b "ValueError.__new__")),(k (vl true))]
def a5:Obj:=of "code" [(v "NoStore" 290),(v "NoStore" 291),(v "/claim/cut.py" 292),(i 40),(i 0),(i 0),(i 0),(i 0),(r 88),(vl false),(i 181),(r 89),vn,vn,vn,vn,(i 293),(i 40),(v "/claim/cut.py" 294)]
def a6:Obj:=fr [(k (r 102)),(k (r 3)),(k (r 99)),none,(k (v "patchkin.errors" 236)),none,(k (r 0))]
def a7(P:Params):Obj:=dt [(d P "__module__" 311 (v "patchkin.errors" 236)),(d P "__qualname__" 313 (v "NoPatch" 312)),(d P "__firstlineno__" 315 (vi 42 314)),(d P "__static_attributes__" 316 (r 104))] 4
def a8:Obj:=of "super" [(r 106),(r 106),(r 106)]
def a9(P:Params):Obj:=dt [(d P "__module__" 327 (v "patchkin.errors" 236)),(d P "__firstlineno__" 331 (vi 44 330)),(d P "__static_attributes__" 332 (r 116)),(d P "__doc__" 333 vn)] 2
def ba:Obj:=of "builtin_function_or_method" [(b "object.__init_subclass__"),(r 106)]
def bb:Obj:=of "code" [(v "NoPatch" 306),(v "NoPatch" 307),(v "/claim/cut.py" 308),(i 42),(i 0),(i 0),(i 0),(i 0),(r 100),(vl false),(i 181),(r 101),vn,vn,vn,vn,(i 309),(i 42),(v "/claim/cut.py" 310)]
def bc:Obj:=ty (cl (S "NoLine") [(r 57)] [(r 118),(r 57),(w "ValueError"),(w "Exception"),(w "BaseException"),(w "object")] 117 (S "NoLine") true [] [] false none false) [(k (r 109)),none,(k (v "NoLine" 320)),(k (v "NoLine" 328)),(k (b "ValueError.__new__")),(k (vl true))]
def bd(P:Params):Obj:=dt [(d P "__module__" 327 (v "patchkin.errors" 236)),(d P "__qualname__" 329 (v "NoLine" 328)),(d P "__firstlineno__" 331 (vi 44 330)),(d P "__static_attributes__" 332 (r 116))] 4
def be:Obj:=of "super" [(r 118),(r 118),(r 118)]
def bf:Obj:=fr [(k (r 114)),(k (r 3)),(k (r 111)),none,(k (v "patchkin.errors" 236)),none,(k (r 0))]
def bg(P:Params):Obj:=dt [(d P "__module__" 343 (v "patchkin.errors" 236)),(d P "__firstlineno__" 347 (vi 46 346)),(d P "__static_attributes__" 348 (r 128)),(d P "__doc__" 349 vn)] 2
def bh:Obj:=of "builtin_function_or_method" [(b "object.__init_subclass__"),(r 118)]
def bi:Obj:=ty (cl (S "Unsettled") [(r 57)] [(r 130),(r 57),(w "ValueError"),(w "Exception"),(w "BaseException"),(w "object")] 129 (S "Unsettled") true [] [] false none false) [(k (r 121)),none,(k (v "Unsettled" 336)),(k (v "Unsettled" 344)),(k (b "ValueError.__new__")),(k (vl true))]
def bj:Obj:=of "code" [(v "NoLine" 322),(v "NoLine" 323),(v "/claim/cut.py" 324),(i 44),(i 0),(i 0),(i 0),(i 0),(r 112),(vl false),(i 181),(r 113),vn,vn,vn,vn,(i 325),(i 44),(v "/claim/cut.py" 326)]
def bk:Obj:=fr [(k (r 126)),(k (r 3)),(k (r 123)),none,(k (v "patchkin.errors" 236)),none,(k (r 0))]
def bl:Obj:=of "super" [(r 130),(r 130),(r 130)]
def bm(P:Params):Obj:=dt [(d P "__module__" 343 (v "patchkin.errors" 236)),(d P "__qualname__" 345 (v "Unsettled" 344)),(d P "__firstlineno__" 347 (vi 46 346)),(d P "__static_attributes__" 348 (r 128))] 4
def bn(P:Params):Obj:=dt [(d P "__module__" 359 (v "patchkin.errors" 236)),(d P "__firstlineno__" 363 (vi 48 362)),(d P "__static_attributes__" 364 (r 140)),(d P "__doc__" 365 vn)] 2
def bo:Obj:=of "builtin_function_or_method" [(b "object.__init_subclass__"),(r 130)]
def bp:Obj:=ty (cl (S "Same") [(r 57)] [(r 142),(r 57),(w "ValueError"),(w "Exception"),(w "BaseException"),(w "object")] 141 (S "Same") true [] [] false none false) [(k (r 133)),none,(k (v "Same" 352)),(k (v "Same" 360)),(k (b "ValueError.__new__")),(k (vl true))]
def bq:Obj:=of "code" [(v "Unsettled" 338),(v "Unsettled" 339),(v "/claim/cut.py" 340),(i 46),(i 0),(i 0),(i 0),(i 0),(r 124),(vl false),(i 181),(r 125),vn,vn,vn,vn,(i 341),(i 46),(v "/claim/cut.py" 342)]
def br:Obj:=of "super" [(r 142),(r 142),(r 142)]
def bs(P:Params):Obj:=dt [(d P "__module__" 359 (v "patchkin.errors" 236)),(d P "__qualname__" 361 (v "Same" 360)),(d P "__firstlineno__" 363 (vi 48 362)),(d P "__static_attributes__" 364 (r 140))] 4
def bt:Obj:=fr [(k (r 138)),(k (r 3)),(k (r 135)),none,(k (v "patchkin.errors" 236)),none,(k (r 0))]
def bu:Obj:=of "builtin_function_or_method" [(b "object.__init_subclass__"),(r 142)]
def bv:Obj:=of "code" [(v "Same" 354),(v "Same" 355),(v "/claim/cut.py" 356),(i 48),(i 0),(i 0),(i 0),(i 0),(r 136),(vl false),(i 181),(r 137),vn,vn,vn,vn,(i 357),(i 48),(v "/claim/cut.py" 358)]
def bw:Obj:=ty (cl (S "PatchError") [(w "ValueError")] [(r 57),(w "ValueError"),(w "Exception"),(w "BaseException"),(w "object")] 56 (S "PatchError") true [] [(r 70),(r 82),(r 94),(r 106),(r 118),(r 130),(r 142),(r 154)] false none false) [(k (r 48)),none,(k (v "PatchError" 238)),(k (v "PatchError" 246)),(k (b "ValueError.__new__")),(k (vl true))]
def bx(P:Params):Obj:=dt [(d P "__module__" 375 (v "patchkin.errors" 236)),(d P "__firstlineno__" 379 (vi 50 378)),(d P "__static_attributes__" 380 (r 152)),(d P "__doc__" 381 vn)] 2
def bz:Obj:=ty (cl (S "Leant") [(r 57)] [(r 154),(r 57),(w "ValueError"),(w "Exception"),(w "BaseException"),(w "object")] 153 (S "Leant") true [] [] false none false) [(k (r 145)),none,(k (v "Leant" 368)),(k (v "Leant" 376)),(k (b "ValueError.__new__")),(k (vl true))]
def bA:Obj:=of "getset_descriptor" [(v "__weakref__" 416),(r 173),(b "ExceptionGroup.__weakref__"),vn]
def bB:Obj:=fr [(k (r 150)),(k (r 3)),(k (r 147)),none,(k (v "patchkin.errors" 236)),none,(k (r 0))]
def bC(P:Params):Obj:=dt [(d P "__module__" 375 (v "patchkin.errors" 236)),(d P "__qualname__" 377 (v "Leant" 376)),(d P "__firstlineno__" 379 (vi 50 378)),(d P "__static_attributes__" 380 (r 152))] 4
def bD:Obj:=tp [(v "lower_name" 409),(v "name" 410),(v "text" 411),(v "upper_name" 412)]
def bE:Obj:=of "super" [(r 154),(r 154),(r 154)]
def bF:Obj:=co "__init__" "Line.__init__" 398 55 5 3 164 181 [165,0,166,167,168] 406
def bG:Obj:=ty (cl (S "Line") [(w "object")] [(r 173),(w "object")] 172 (S "Line") true [] [] false none false) [none,none,(k (v "Line" 386)),(k (v "Line" 394)),(k (b "object.__new__")),(k (vl true))]
def bH(P:Params):Obj:=dt [(d P "__module__" 393 (v "patchkin.order" 384)),(d P "__firstlineno__" 397 (vi 53 396)),(d P "__init__" 408 (r 170)),(d P "__static_attributes__" 413 (r 171)),(d P "__dict__" 415 (r 174)),(d P "__weakref__" 417 (r 175)),(d P "__doc__" 418 vn)] 4
def bI:Obj:=of "builtin_function_or_method" [(b "object.__init_subclass__"),(r 154)]
def bJ:Obj:=fn "__init__" "Line.__init__" (y 17 0) "patchkin.order" 384 169
def bK:Obj:=tp [(v "self" 401),(v "name" 402),(v "text" 403),(v "upper_name" 404),(v "lower_name" 405)]
def bL:Obj:=of "code" [(v "Leant" 370),(v "Leant" 371),(v "/claim/cut.py" 372),(i 50),(i 0),(i 0),(i 0),(i 0),(r 148),(vl false),(i 181),(r 149),vn,vn,vn,vn,(i 373),(i 50),(v "/claim/cut.py" 374)]
def bM:Obj:=of "getset_descriptor" [(v "__dict__" 414),(r 173),(b "function.__dict__"),(b "function.__dict__#set")]
def bN:Obj:=fn "__init__" "Patch.__init__" (y 18 0) "patchkin.order" 384 190
def bO(P:Params):Obj:=dt [(d P "__module__" 393 (v "patchkin.order" 384)),(d P "__qualname__" 395 (v "Line" 394)),(d P "__firstlineno__" 397 (vi 53 396)),(d P "__init__" 408 (r 170)),(d P "__static_attributes__" 413 (r 171))] 5
def bP:Obj:=co "leans_straight_on" "leans_straight_on" 464 74 1 3 204 181 [205,0,0,0,206] 467
def bQ:Obj:=co "files_with_lines" "files_with_lines" 496 101 1 3 228 181 [229,0,0,0,230] 499
def bR:Obj:=fn "live_patches" "live_patches" (x 21) "patchkin.order" 384 214
def bS:Obj:=of "getset_descriptor" [(v "__dict__" 451),(r 194),(b "function.__dict__"),(b "function.__dict__#set")]
def bT:Obj:=fr [(k (r 162)),(k (r 3)),(k (r 159)),none,(k (v "patchkin.order" 384)),none,(k (r 0))]
def bU:Obj:=fn "standing_lines" "standing_lines" (x 23) "patchkin.order" 384 226
noncomputable def bV:Obj:=tp [(v "patches" 473),(v "taken_back" 474),(v "live" 475),(v "patch" 476)]
def bW:Obj:=fn "lines_named_by" "lines_named_by" (x 19) "patchkin.order" 384 202
def bX:Obj:=tp [(v "self" 436),(v "name" 437),(v "file" 438),(v "puts" 439),(v "cuts" 440),(v "other" 441)]
def bY(P:Params):Obj:=dt [(d P "__module__" 428 (v "patchkin.order" 384)),(d P "__firstlineno__" 432 (vi 60 431)),(d P "__init__" 444 (r 191)),(d P "__static_attributes__" 450 (r 192)),(d P "__dict__" 452 (r 195)),(d P "__weakref__" 454 (r 196)),(d P "__doc__" 455 vn)] 4
def bZ:Obj:=l3 [(55,4,169)]
def b0:Obj:=of "builtin_function_or_method" [(b "object.__init_subclass__"),(r 173)]
def b1:Obj:=co "lines_put" "lines_put" 480 88 2 3 216 181 [217,0,218,219,220] 487
def b2:Obj:=tp [(v "cuts" 445),(v "file" 446),(v "name" 447),(v "other" 448),(v "puts" 449)]
def b3:Obj:=fn "leans_straight_on" "leans_straight_on" (x 20) "patchkin.order" 384 207
def b4:Obj:=of "super" [(r 173),(r 173),(r 173)]
def b5:Obj:=fv "__init__" "Line.__init__" (y 17 0)
def b6:Obj:=fn "files_with_lines" "files_with_lines" (x 24) "patchkin.order" 384 231
def b7:Obj:=of "getset_descriptor" [(v "__weakref__" 453),(r 194),(b "ExceptionGroup.__weakref__"),vn]
def b8:Obj:=ty (cl (S "Patch") [(w "object")] [(r 194),(w "object")] 193 (S "Patch") true [] [] false none false) [none,none,(k (v "Patch" 421)),(k (v "Patch" 429)),(k (b "object.__new__")),(k (vl true))]
def b9:Obj:=of "code" [(v "Line" 388),(v "Line" 389),(v "/claim/cut.py" 390),(i 53),(i 0),(i 0),(i 0),(i 0),(r 160),(vl false),(i 181),(r 161),vn,vn,vn,vn,(i 391),(i 53),(v "/claim/cut.py" 392)]
def ca:Obj:=co "standing_lines" "standing_lines" 490 94 2 3 223 181 [224,0,0,0,225] 493
def cb:Obj:=co "lines_named_by" "lines_named_by" 458 68 1 3 199 181 [200,0,0,0,201] 461
def cc:Obj:=tp [(v "patches" 483),(v "file" 484),(v "lines" 485),(v "patch" 486)]
def cd:Obj:=co "live_patches" "live_patches" 470 79 1 3 209 181 [210,0,211,212,213] 477
def ce:Obj:=fn "lines_put" "lines_put" (x 22) "patchkin.order" 384 221
def cf:Obj:=co "__init__" "Patch.__init__" 433 62 6 3 185 181 [186,0,187,188,189] 442
def cg:Obj:=of "code" [(v "Patch" 423),(v "Patch" 424),(v "/claim/cut.py" 425),(i 60),(i 0),(i 0),(i 0),(i 0),(r 181),(vl false),(i 181),(r 182),vn,vn,vn,vn,(i 426),(i 60),(v "/claim/cut.py" 427)]
def ch:Obj:=fv "standing_lines" "standing_lines" (x 23)
def ci:Obj:=fv "lines_named_by" "lines_named_by" (x 19)
def cj:Obj:=of "super" [(r 194),(r 194),(r 194)]
def ck:Obj:=fv "live_patches" "live_patches" (x 21)
def cm:Obj:=fv "__init__" "Patch.__init__" (y 18 0)
def cn:Obj:=fr [(k (r 183)),(k (r 3)),(k (r 180)),none,(k (v "patchkin.order" 384)),none,(k (r 0))]
def cp(P:Params):Obj:=dt [(d P "__module__" 428 (v "patchkin.order" 384)),(d P "__qualname__" 430 (v "Patch" 429)),(d P "__firstlineno__" 432 (vi 60 431)),(d P "__init__" 444 (r 191)),(d P "__static_attributes__" 450 (r 192))] 5
def cq:Obj:=fv "lines_put" "lines_put" (x 22)
def cr:Obj:=of "builtin_function_or_method" [(b "object.__init_subclass__"),(r 194)]
def cs:Obj:=fv "files_with_lines" "files_with_lines" (x 24)
def ct:Obj:=l3 [(62,4,190)]
def cu:Obj:=fv "leans_straight_on" "leans_straight_on" (x 20)
def cv:Obj:=fn "straight_ahead" "straight_ahead" (x 25) "patchkin.order" 384 238
def cw:Obj:=fn "row_of" "row_of" (x 29) "patchkin.order" 384 262
def cx:Obj:=tp [(v "lines" 505),(v "straight" 506),(v "line" 507)]
def cy:Obj:=fn "all_ahead" "all_ahead" (x 27) "patchkin.order" 384 250
def cz:Obj:=co "first_free" "first_free" 527 136 1 3 252 181 [253,0,254,255,256] 532
def cA:Obj:=co "joined" "joined" 511 114 2 3 240 181 [241,0,242,243,244] 518
def cB:Obj:=fn "first_free" "first_free" (x 28) "patchkin.order" 384 257
noncomputable def cC:Obj:=tp [(v "names" 514),(v "ahead" 515),(v "found" 516),(v "name" 517)]
def cD:Obj:=co "all_ahead" "all_ahead" 521 120 1 3 247 181 [248,0,0,0,249] 524
def cE:Obj:=co "row_of" "row_of" 535 141 2 3 259 181 [260,0,0,0,261] 538
def cF:Obj:=fn "joined" "joined" (x 26) "patchkin.order" 384 245
def cG:Obj:=co "straight_ahead" "straight_ahead" 502 104 1 3 233 181 [234,0,235,236,237] 508
def cH:Obj:=tp [(v "waiting" 530),(v "name" 531)]
def cI:Obj:=tp [(v "self" 574),(v "pairs" 575),(v "first" 576),(v "second" 577)]
def cJ:Obj:=fn "quarrelling" "Sight.quarrelling" (y 30 2) "patchkin.order" 384 290
def cK(P:Params):Obj:=dt [(d P "__module__" 548 (v "patchkin.order" 384)),(d P "__firstlineno__" 552 (vi 156 551)),(d P "__init__" 561 (r 277)),(d P "is_ahead" 570 (r 284)),(d P "quarrelling" 580 (r 291)),(d P "most_from" 587 (r 298)),(d P "staying" 594 (r 305)),(d P "__static_attributes__" 597 (r 306)),(d P "__dict__" 599 (r 309)),(d P "__weakref__" 601 (r 310)),(d P "__doc__" 602 vn)] 4
def cL:Obj:=co "is_ahead" "Sight.is_ahead" 562 162 3 3 278 181 [279,0,280,281,282] 568
def cM:Obj:=tp [(v "self" 556),(v "patches" 557),(v "file" 558)]
def cN:Obj:=fn "staying" "Sight.staying" (y 30 4) "patchkin.order" 384 304
def cO:Obj:=co "most_from" "Sight.most_from" 581 173 1 3 292 181 [293,0,294,295,296] 585
def cP:Obj:=fv "all_ahead" "all_ahead" (x 27)
def cQ:Obj:=fv "row_of" "row_of" (x 29)
def cR:Obj:=fn "__init__" "Sight.__init__" (y 30 0) "patchkin.order" 384 276
def cS:Obj:=of "getset_descriptor" [(v "__dict__" 598),(r 308),(b "function.__dict__"),(b "function.__dict__#set")]
def cT:Obj:=tp [(v "self" 591)]
def cU:Obj:=fv "straight_ahead" "straight_ahead" (x 25)
def cV:Obj:=fv "first_free" "first_free" (x 28)
def cW:Obj:=co "staying" "Sight.staying" 588 176 1 3 299 181 [300,0,301,302,303] 592
def cX:Obj:=tp [(v "self" 565),(v "first" 566),(v "second" 567)]
def cY:Obj:=co "__init__" "Sight.__init__" 553 158 3 3 271 181 [272,0,273,274,275] 559
def cZ:Obj:=ty (cl (S "Sight") [(w "object")] [(r 308),(w "object")] 307 (S "Sight") true [] [] false none false) [none,none,(k (v "Sight" 541)),(k (v "Sight" 549)),(k (b "object.__new__")),(k (vl true))]
def c0:Obj:=fv "joined" "joined" (x 26)
def c1:Obj:=fn "is_ahead" "Sight.is_ahead" (y 30 1) "patchkin.order" 384 283
def c2:Obj:=co "quarrelling" "Sight.quarrelling" 571 165 1 3 285 181 [286,0,287,288,289] 578
def c3:Obj:=tp [(v "ahead" 595),(v "lines" 596)]
def c4:Obj:=fn "most_from" "Sight.most_from" (y 30 3) "patchkin.order" 384 297
def c5:Obj:=tp [(v "self" 584)]
def c6:Obj:=of "getset_descriptor" [(v "__weakref__" 600),(r 308),(b "ExceptionGroup.__weakref__"),vn]
def c7:Obj:=fn "check_name" "check_name" (x 34) "patchkin.desk" 605 318
def c8:Obj:=fv "staying" "Sight.staying" (y 30 4)
def c9:Obj:=of "super" [(r 308),(r 308),(r 308)]
def da:Obj:=fv "__init__" "Sight.__init__" (y 30 0)
def db:Obj:=co "new_lines" "new_lines" 639 198 3 3 334 181 [335,0,336,337,338] 650
def dc:Obj:=tp [(v "name" 614),(v "sign" 615)]
def df:Obj:=fv "quarrelling" "Sight.quarrelling" (y 30 2)
def dg:Obj:=tp [(v "kept_names" 632),(v "size" 633),(v "behind" 634),(v "place" 635)]
def dh:Obj:=fn "changing_patch" "changing_patch" (x 38) "patchkin.desk" 605 344
def di:Obj:=co "check_places" "check_places" 619 187 2 3 320 181 [321,0,322,323,324] 626
def dj:Obj:=of "code" [(v "Sight" 543),(v "Sight" 544),(v "/claim/cut.py" 545),(i 156),(i 0),(i 0),(i 0),(i 0),(r 267),(vl false),(i 181),(r 268),vn,vn,vn,vn,(i 546),(i 156),(v "/claim/cut.py" 547)]
def dk:Obj:=fn "kept_behind" "kept_behind" (x 36) "patchkin.desk" 605 332
def dl:Obj:=tp [(v "patch" 642),(v "texts" 643),(v "kept_names" 644),(v "behind" 645),(v "lines" 646),(v "upper_name" 647),(v "place" 648),(v "text" 649)]
def dm:Obj:=fv "most_from" "Sight.most_from" (y 30 3)
def dn:Obj:=co "changing_patch" "changing_patch" 653 209 4 3 341 181 [342,0,0,0,343] 656
def dp:Obj:=of "builtin_function_or_method" [(b "object.__init_subclass__"),(r 308)]
def dq:Obj:=fn "new_lines" "new_lines" (x 37) "patchkin.desk" 605 339
def dr:Obj:=l3 [(158,4,276),(162,4,283),(165,4,290),(173,4,297),(176,4,304)]
def ds:Obj:=co "kept_behind" "kept_behind" 629 193 2 3 327 181 [328,0,329,330,331] 636
def du:Obj:=tp [(v "places" 622),(v "size" 623),(v "least" 624),(v "place" 625)]
def dv(P:Params):Obj:=dt [(d P "__module__" 548 (v "patchkin.order" 384)),(d P "__qualname__" 550 (v "Sight" 549)),(d P "__firstlineno__" 552 (vi 156 551)),(d P "__init__" 561 (r 277)),(d P "is_ahead" 570 (r 284)),(d P "quarrelling" 580 (r 291)),(d P "most_from" 587 (r 298)),(d P "staying" 594 (r 305)),(d P "__static_attributes__" 597 (r 306))] 9
def dw:Obj:=fv "is_ahead" "Sight.is_ahead" (y 30 1)
def dx:Obj:=fn "check_places" "check_places" (x 35) "patchkin.desk" 605 325
def dy:Obj:=fr [(k (r 269)),(k (r 3)),(k (r 266)),none,(k (v "patchkin.order" 384)),none,(k (r 0))]
def dz:Obj:=co "check_name" "check_name" 611 181 1 3 313 181 [314,0,315,316,317] 616
def dA:Obj:=fn "__init__" "Desk.__init__" (y 39 0) "patchkin.desk" 605 358
noncomputable def dB:Obj:=fn "take" "Desk.take" (y 39 8) "patchkin.desk" 605 406
def dC:Obj:=fv "changing_patch" "changing_patch" (x 38)
noncomputable def dD:Obj:=fn "leans" "Desk.leans" (y 39 10) "patchkin.desk" 605 418
def dE:Obj:=tp [(v "self" 674)]
def dF:Obj:=fn "cut" "Desk.cut" (y 39 6) "patchkin.desk" 605 394
def dG:Obj:=fv "kept_behind" "kept_behind" (x 36)
def dH:Obj:=co "patches" "Desk.patches" 693 233 1 3 374 181 [375,0,376,377,378] 697
noncomputable def dI:Obj:=fn "has" "Desk.has" (y 39 4) "patchkin.desk" 605 384
def dJ:Obj:=co "back" "Desk.back" 718 259 4 3 396 181 [397,0,398,399,400] 725
def dK:Obj:=tp [(v "self" 689)]
def dL:Obj:=co "told" "Desk.told" 750 287 2 3 420 181 [421,0,422,423,424] 755
def dM:Obj:=co "record" "Desk.record" 706 240 5 3 386 181 [387,0,0,0,388] 709
def dN:Obj:=fn "stores" "Desk.stores" (y 39 2) "patchkin.desk" 605 372
noncomputable def dO:Obj:=co "begin" "Desk.begin" 678 224 2 3 360 181 [361,0,362,363,364] 683
noncomputable def dP:Obj:=co "drop" "Desk.drop" 734 275 3 3 408 181 [409,0,410,411,412] 741
def dQ:Obj:=fv "check_name" "check_name" (x 34)
noncomputable def dR:Obj:=co "has" "Desk.has" 700 236 2 3 381 181 [382,0,0,0,383] 703
def dS:Obj:=tp [(v "self" 696)]
def dT:Obj:=fv "check_places" "check_places" (x 35)
def dU:Obj:=co "stores" "Desk.stores" 686 230 1 3 367 181 [368,0,369,370,371] 690
def dV:Obj:=fn "patches" "Desk.patches" (y 39 3) "patchkin.desk" 605 379
noncomputable def dW:Obj:=co "leans" "Desk.leans" 744 283 2 3 415 181 [416,0,0,0,417] 747
def dX:Obj:=fn "back" "Desk.back" (y 39 7) "patchkin.desk" 605 401
def dY:Obj:=fv "new_lines" "new_lines" (x 37)
def dZ:Obj:=co "cut" "Desk.cut" 712 250 5 3 391 181 [392,0,0,0,393] 715
def d0:Obj:=tp [(v "self" 681),(v "store" 682)]
def d1:Obj:=tp [(v "self" 737),(v "store" 738),(v "patch" 739),(v "name" 740)]
def d2:Obj:=fn "record" "Desk.record" (y 39 5) "patchkin.desk" 605 389
def d3:Obj:=tp [(v "self" 753),(v "patch" 754)]
def d4:Obj:=co "__init__" "Desk.__init__" 671 219 1 3 353 181 [354,0,355,356,357] 675
noncomputable def d5:Obj:=co "take" "Desk.take" 728 265 4 3 403 181 [404,0,0,0,405] 731
def d6:Obj:=tp [(v "self" 721),(v "store" 722),(v "patch" 723),(v "other" 724)]
noncomputable def d7:Obj:=fn "begin" "Desk.begin" (y 39 1) "patchkin.desk" 605 365
noncomputable def d8:Obj:=fn "drop" "Desk.drop" (y 39 9) "patchkin.desk" 605 413
noncomputable def d9:Obj:=fv "has" "Desk.has" (y 39 4)
def ea:Obj:=of "code" [(v "Desk" 661),(v "Desk" 662),(v "/claim/cut.py" 663),(i 217),(i 0),(i 0),(i 0),(i 0),(r 349),(vl false),(i 181),(r 350),vn,vn,vn,vn,(i 664),(i 217),(v "/claim/cut.py" 665)]
def eb:Obj:=co "sight_of" "Desk.sight_of" 796 305 3 3 458 181 [459,0,460,461,462] 802
def ec:Obj:=tp [(v "self" 843),(v "store" 844),(v "patch" 845),(v "needs" 846),(v "name" 847)]
def ed:Obj:=fn "check_store" "Desk.check_store" (y 39 18) "patchkin.desk" 605 470
def ee:Obj:=of "getset_descriptor" [(v "__dict__" 855),(r 502),(b "function.__dict__"),(b "function.__dict__#set")]
def ef:Obj:=co "stay" "Desk.stay" 781 299 3 3 446 181 [447,0,448,449,450] 787
def eg:Obj:=tp [(v "self" 808),(v "store" 809)]
def eh:Obj:=fv "stores" "Desk.stores" (y 39 2)
noncomputable def ei:Obj:=fn "keep" "Desk.keep" (y 39 22) "patchkin.desk" 605 498
def ej:Obj:=co "check_new" "Desk.check_new" 830 320 3 3 486 181 [487,0,488,489,490] 837
noncomputable def ek:Obj:=fv "leans" "Desk.leans" (y 39 10)
def el:Obj:=tp [(v "self" 824),(v "store" 825),(v "patch" 826)]
def em:Obj:=fn "files" "Desk.files" (y 39 12) "patchkin.desk" 605 432
def en:Obj:=fv "cut" "Desk.cut" (y 39 6)
def eo:Obj:=fn "patches_of" "Desk.patches_of" (y 39 16) "patchkin.desk" 605 456
def ep:Obj:=tp [(v "self" 775),(v "store" 776),(v "file" 777)]
def eq:Obj:=fv "__init__" "Desk.__init__" (y 39 0)
def er:Obj:=fn "check_held" "Desk.check_held" (y 39 20) "patchkin.desk" 605 484
noncomputable def es:Obj:=fv "take" "Desk.take" (y 39 8)
def et:Obj:=co "row" "Desk.row" 766 293 3 3 434 181 [435,0,0,0,436] 769
noncomputable def eu(P:Params):Obj:=dt [(d P "__module__" 666 (v "patchkin.desk" 605)),(d P "__firstlineno__" 670 (vi 217 669)),(d P "__init__" 677 (r 359)),(d P "begin" 685 (r 366)),(d P "stores" 692 (r 373)),(d P "patches" 699 (r 380)),(d P "has" 705 (r 385)),(d P "record" 711 (r 390)),(d P "cut" 717 (r 395)),(d P "back" 727 (r 402)),(d P "take" 733 (r 407)),(d P "drop" 743 (r 414)),(d P "leans" 749 (r 419)),(d P "told" 757 (r 426)),(d P "files" 765 (r 433)),(d P "row" 771 (r 438)),(d P "quarrels" 780 (r 445)),(d P "stay" 789 (r 452)),(d P "patches_of" 795 (r 457)),(d P "sight_of" 804 (r 464)),(d P "check_store" 812 (r 471)),(d P "check_made" 820 (r 478)),(d P "check_held" 829 (r 485)),(d P "check_new" 839 (r 492)),(d P "keep" 850 (r 499)),(d P "__static_attributes__" 854 (r 500)),(d P "__dict__" 856 (r 503)),(d P "__weakref__" 858 (r 504)),(d P "__doc__" 859 vn)] 4
def ev:Obj:=tp [(v "self" 761),(v "store" 762)]
def ew:Obj:=co "check_made" "Desk.check_made" 813 312 2 3 472 181 [473,0,474,475,476] 818
def ex:Obj:=fn "quarrels" "Desk.quarrels" (y 39 14) "patchkin.desk" 605 444
def ey:Obj:=tp [(v "self" 784),(v "store" 785),(v "file" 786)]
def ez:Obj:=fr [(k (r 351)),(k (r 3)),(k (r 348)),none,(k (v "patchkin.desk" 605)),none,(k (r 0))]
def eA:Obj:=fv "back" "Desk.back" (y 39 7)
def eB:Obj:=fn "sight_of" "Desk.sight_of" (y 39 17) "patchkin.desk" 605 463
def eC:Obj:=co "files" "Desk.files" 758 290 2 3 427 181 [428,0,429,430,431] 763
def eD:Obj:=co "patches_of" "Desk.patches_of" 790 302 2 3 453 181 [454,0,0,0,455] 793
def eE:Obj:=fv "told" "Desk.told" (y 39 11)
def eF:Obj:=tp [(v "self" 833),(v "patch" 834),(v "files" 835),(v "name" 836)]
def eG:Obj:=of "getset_descriptor" [(v "__weakref__" 857),(r 502),(b "ExceptionGroup.__weakref__"),vn]
def eH:Obj:=fv "record" "Desk.record" (y 39 5)
def eI:Obj:=fn "stay" "Desk.stay" (y 39 15) "patchkin.desk" 605 451
def eJ:Obj:=co "check_held" "Desk.check_held" 821 316 3 3 479 181 [480,0,481,482,483] 827
def eK:Obj:=tp [(v "held" 851),(v "made" 852),(v "needs" 853)]
def eL:Obj:=tp [(v "self" 799),(v "store" 800),(v "file" 801)]
noncomputable def eM:Obj:=fv "begin" "Desk.begin" (y 39 1)
def eN:Obj:=fn "check_new" "Desk.check_new" (y 39 21) "patchkin.desk" 605 491
noncomputable def eO:Obj:=fv "drop" "Desk.drop" (y 39 9)
def eP:Obj:=co "quarrels" "Desk.quarrels" 772 296 3 3 439 181 [440,0,441,442,443] 778
noncomputable def eQ:Obj:=co "keep" "Desk.keep" 840 326 3 3 493 181 [494,0,495,496,497] 848
def eR:Obj:=fn "told" "Desk.told" (y 39 11) "patchkin.desk" 605 425
def eS:Obj:=tp [(v "self" 816),(v "patch" 817)]
def eT:Obj:=fv "patches" "Desk.patches" (y 39 3)
def eU:Obj:=co "check_store" "Desk.check_store" 805 308 2 3 465 181 [466,0,467,468,469] 810
def eV:Obj:=fn "row" "Desk.row" (y 39 13) "patchkin.desk" 605 437
def eW:Obj:=ty (cl (S "Desk") [(w "object")] [(r 502),(w "object")] 501 (S "Desk") true [] [] false none false) [none,none,(k (v "Desk" 659)),(k (v "Desk" 667)),(k (b "object.__new__")),(k (vl true))]
def eX:Obj:=fn "check_made" "Desk.check_made" (y 39 19) "patchkin.desk" 605 477
def eY(P:Params):Obj:=dt ((d P "__name__" 165 (v "law_patchkin_k10_whole_recorded_stands" 862))::hm P) 58
def eZ:Obj:=fn "_law_seen" "_law_seen" (x 51) "law_patchkin_k10_whole_recorded_stands" 862 574
def e0:Obj:=co "_law_deed" "_law_deed" 916 379 6 3 540 181 [541,0,0,0,542] 919
def e1:Obj:=fn "_law_name" "_law_name" (x 43) "law_patchkin_k10_whole_recorded_stands" 862 526
def e2:Obj:=tp [(v "row" 938),(v "line" 939)]
def e3:Obj:=fv "files" "Desk.files" (y 39 12)
def e4:Obj:=co "_law_draw" "_law_draw" 872 339 3 3 514 181 [515,0,516,517,518] 879
def e5:Obj:=fv "patches_of" "Desk.patches_of" (y 39 16)
def e6:Obj:=tp [(v "texts" 905),(v "cell" 906),(v "at" 907),(v "line" 908),(v "more" 909),(v "way" 910),(v "out" 911),(v "turned" 912)]
def e7:Obj:=co "_law_cut_right" "_law_cut_right" 957 430 3 3 576 181 [577,0,0,0,578] 960
def e8:Obj:=fv "check_held" "Desk.check_held" (y 39 20)
def e9:Obj:=co "_law_text" "_law_text" 896 355 1 3 528 181 [529,0,0,0,530] 899
def fa:Obj:=fn "_law_row_form" "_law_row_form" (x 49) "law_patchkin_k10_whole_recorded_stands" 862 562
def fb:Obj:=tp [(v "cell" 885),(v "k" 886),(v "signs" 887),(v "size" 888),(v "base" 889),(v "far" 890),(v "found" 891),(v "j" 892)]
def fc:Obj:=co "_law_whole" "_law_whole" 928 410 1 3 550 181 [551,0,552,553,554] 932
def fe:Obj:=fn "_law_edit" "_law_edit" (x 45) "law_patchkin_k10_whole_recorded_stands" 862 538
def ff:Obj:=fv "quarrels" "Desk.quarrels" (y 39 14)
def fg:Obj:=fn "_law_cell_at" "_law_cell_at" (x 41) "law_patchkin_k10_whole_recorded_stands" 862 512
noncomputable def fh:Obj:=fv "keep" "Desk.keep" (y 39 22)
def fi:Obj:=fn "law" "law" (x 53) "law_patchkin_k10_whole_recorded_stands" 862 584
def fj:Obj:=co "_law_pairs_form" "_law_pairs_form" 943 421 1 3 564 181 [565,0,566,567,568] 948
def fk:Obj:=of "super" [(r 502),(r 502),(r 502)]
def fm:Obj:=fn "_law_desk" "_law_desk" (x 47) "law_patchkin_k10_whole_recorded_stands" 862 548
def fo:Obj:=fv "check_store" "Desk.check_store" (y 39 18)
def fp:Obj:=tp [(v "script" 867),(v "k" 868)]
def fq:Obj:=co "_law_cell_at" "_law_cell_at" 864 335 2 3 507 181 [508,0,509,510,511] 869
def fs:Obj:=fn "_law_deed" "_law_deed" (x 46) "law_patchkin_k10_whole_recorded_stands" 862 543
def ft:Obj:=fn "_law_draw" "_law_draw" (x 42) "law_patchkin_k10_whole_recorded_stands" 862 519
def fu:Obj:=co "law" "law" 963 443 1 3 581 181 [582,0,0,0,583] 966
def fw:Obj:=tp [(v "found" 931)]
def fx:Obj:=tp [(v "cell" 875),(v "k" 876),(v "bound" 877),(v "stir" 878)]
def fy:Obj:=fn "_law_cut_right" "_law_cut_right" (x 52) "law_patchkin_k10_whole_recorded_stands" 862 579
def fz:Obj:=co "_law_desk" "_law_desk" 922 398 4 3 545 181 [546,0,0,0,547] 925
def fA:Obj:=fn "_law_text" "_law_text" (x 44) "law_patchkin_k10_whole_recorded_stands" 862 531
def fB:Obj:=fv "row" "Desk.row" (y 39 13)
def fC:Obj:=fn "_law_whole" "_law_whole" (x 48) "law_patchkin_k10_whole_recorded_stands" 862 555
noncomputable def fD(P:Params):Obj:=dt [(d P "__module__" 666 (v "patchkin.desk" 605)),(d P "__qualname__" 668 (v "Desk" 667)),(d P "__firstlineno__" 670 (vi 217 669)),(d P "__init__" 677 (r 359)),(d P "begin" 685 (r 366)),(d P "stores" 692 (r 373)),(d P "patches" 699 (r 380)),(d P "has" 705 (r 385)),(d P "record" 711 (r 390)),(d P "cut" 717 (r 395)),(d P "back" 727 (r 402)),(d P "take" 733 (r 407)),(d P "drop" 743 (r 414)),(d P "leans" 749 (r 419)),(d P "told" 757 (r 426)),(d P "files" 765 (r 433)),(d P "row" 771 (r 438)),(d P "quarrels" 780 (r 445)),(d P "stay" 789 (r 452)),(d P "patches_of" 795 (r 457)),(d P "sight_of" 804 (r 464)),(d P "check_store" 812 (r 471)),(d P "check_made" 820 (r 478)),(d P "check_held" 829 (r 485)),(d P "check_new" 839 (r 492)),(d P "keep" 850 (r 499)),(d P "__static_attributes__" 854 (r 500))] 27
def fE:Obj:=fv "check_made" "Desk.check_made" (y 39 19)
def fF:Obj:=fv "stay" "Desk.stay" (y 39 15)
def fG:Obj:=co "_law_row_form" "_law_row_form" 935 412 1 3 557 181 [558,0,559,560,561] 940
def fH:Obj:=fv "check_new" "Desk.check_new" (y 39 21)
def fI:Obj:=co "_law_edit" "_law_edit" 902 363 2 3 533 181 [534,0,535,536,537] 913
def fJ:Obj:=fn "_law_pairs_form" "_law_pairs_form" (x 50) "law_patchkin_k10_whole_recorded_stands" 862 569
def fK:Obj:=of "builtin_function_or_method" [(b "object.__init_subclass__"),(r 502)]
def fL:Obj:=tp [(v "found" 946),(v "pair" 947)]
def fM:Obj:=co "_law_name" "_law_name" 882 343 2 3 521 181 [522,0,523,524,525] 893
def fN:Obj:=fv "sight_of" "Desk.sight_of" (y 39 17)
def fO:Obj:=l3 [(219,4,358),(224,4,365),(230,4,372),(233,4,379),(236,4,384),(240,4,389),(250,4,394),(259,4,401),(265,4,406),(275,4,413),(283,4,418),(287,4,425),(290,4,432),(293,4,437),(296,4,444),(299,4,451),(302,4,456),(305,4,463),(308,4,470),(312,4,477),(316,4,484),(320,4,491),(326,4,498)]
def fP:Obj:=co "_law_seen" "_law_seen" 951 428 3 3 571 181 [572,0,0,0,573] 954
def fQ:Obj:=fv "_law_cell_at" "_law_cell_at" (x 41)
def fS:Obj:=fv "_law_desk" "_law_desk" (x 47)
def fT:Obj:=fv "_law_row_form" "_law_row_form" (x 49)
def fU:Obj:=fv "_law_edit" "_law_edit" (x 45)
def fV:Obj:=fv "_law_name" "_law_name" (x 43)
def fW:Obj:=fv "_law_seen" "_law_seen" (x 51)
def fX:Obj:=fv "_law_pairs_form" "_law_pairs_form" (x 50)
def fY:Obj:=l3 [(1,0,20),(5,0,27),(13,0,32),(18,0,39),(23,0,46),(34,0,53),(36,0,66),(38,0,78),(40,0,90),(42,0,102),(44,0,114),(46,0,126),(48,0,138),(50,0,150),(53,0,162),(60,0,183),(68,0,202),(74,0,207),(79,0,214),(88,0,221),(94,0,226),(101,0,231),(104,0,238),(114,0,245),(120,0,250),(136,0,257),(141,0,262),(156,0,269),(181,0,318),(187,0,325),(193,0,332),(198,0,339),(209,0,344),(217,0,351),(335,0,512),(339,0,519),(343,0,526),(355,0,531),(363,0,538),(379,0,543),(398,0,548),(410,0,555),(412,0,562),(421,0,569),(428,0,574),(430,0,579),(443,0,584)]
def fZ:Obj:=fv "_law_cut_right" "_law_cut_right" (x 52)
def f0:Obj:=fv "_law_text" "_law_text" (x 44)
def f1:Obj:=fv "_law_whole" "_law_whole" (x 48)
def f2:Obj:=fv "_law_draw" "_law_draw" (x 42)
def f3:Obj:=fv "_law_deed" "_law_deed" (x 46)
def f4(P:Params):Obj:=dt ((d P "__name__" 165 (v "patchkin.desk" 605))::hk P) 44
def f5:Obj:=l3 [(1,0,20),(5,0,27),(13,0,32),(18,0,39),(23,0,46),(34,0,53),(36,0,66),(38,0,78),(40,0,90),(42,0,102),(44,0,114),(46,0,126),(48,0,138),(50,0,150),(53,0,162),(60,0,183),(68,0,202),(74,0,207),(79,0,214),(88,0,221),(94,0,226),(101,0,231),(104,0,238),(114,0,245),(120,0,250),(136,0,257),(141,0,262),(156,0,269),(181,0,318),(187,0,325),(193,0,332),(198,0,339),(209,0,344),(217,0,351)]
def f6(P:Params):Obj:=dt ((d P "__name__" 165 (v "patchkin.errors" 236))::g9 P) 17
def f9(P:Params):Obj:=dt ((d P "__name__" 165 (v "patchkin.errors" 236))::he P) 22
def gc(P:Params):Obj:=dt ((d P "__name__" 165 (v "patchkin.order" 384))::hh P) 31
def ge(P:Params):Obj:=dt ((d P "__name__" 165 (v "patchkin.errors" 236))::hb P) 19
def gj(P:Params):Obj:=dt ((d P "__name__" 165 (v "patchkin.order" 384))::hi P) 36
def gl(P:Params):Obj:=dt ((d P "__name__" 165 (v "patchkin.errors" 236))::hc P) 20
def go(P:Params):Obj:=dt ((d P "__name__" 165 (v "patchkin.errors" 236))::ha P) 18
def gr(P:Params):Obj:=dt ((d P "__name__" 165 (v "patchkin.errors" 236))::g7 P) 15
def gu(P:Params):Obj:=dt ((d P "__name__" 165 (v "patchkin.desk" 605))::hl P) 45
def gv(P:Params):Obj:=dt ((d P "__name__" 165 (v "patchkin.order" 384))::hg P) 24
def gy(P:Params):Obj:=dt ((d P "__name__" 165 (v "patchkin.errors" 236))::hd P) 21
def gB(P:Params):Obj:=dt ((d P "__name__" 165 (v "patchkin.order" 384))::hf P) 23
def gD(P:Params):Obj:=dt ((d P "__name__" 165 (v "patchkin.errors" 236))::g8 P) 16
def gG(P:Params):Obj:=dt ((d P "__name__" 165 (v "patchkin.desk" 605))::hj P) 39
def gI:BT:=n aA (n ab (f aN) z) (n aa (f aT) z)
def gJ:BT:=n au (n av (f aa) z) (n ab (f aV) z)
def gK:BT:=n aa (f aa) z
def gL:BT:=n ab (f ac) z
def gM(P:Params):BT:=n aa (n az (n (aL P) (f bk) z) (f aZ)) (n ag (n aS (f br) z) (f (bd P)))
def gN(P:Params):BT:=n aA (n ab (n aN (f bl) z) (f (a7 P))) (n aa (f aT) (f bf))
def gO(P:Params):BT:=n ak (n al (n ab (f (bg P)) z) (f ad)) (n ac (f (aO P)) (f ab))
def gP(P:Params):BT:=n aa (n aE (n ab (f (bn P)) z) (f ad)) (n ad (f (aX P)) (f ab))
def gQ:BT:=n ab (n an gK (f a3)) (n ao (n aa (f bu) z) (f aa))
def gR:BT:=n au (n av (n aa (f bo) z) (f aa)) (n ab (f aV) (f aa))
def gS(P:Params):BT:=n aa (n aa (n aQ (f bi) z) (f ac)) (n (aG P) (f aR) (f bj))
def gT:BT:=n ab (n ay (n aW (f bp) z) (f ac)) (n ac (f aY) (f bq))
def gU:BT:=n ab (f ab) (f ab)
def gV:BT:=n aq (n aP (f aa) (f ab)) (n aa (f b5) (f b6))
def gW:BT:=n aa (f aa) (f aa)
def gX:BT:=n ab (n an (f aa) (f a3)) (n ao (f aa) z)
def gY:BT:=n aw (n aa (f aa) (f ba)) (n aF (f aa) z)
def gZ:BT:=n aH (n ab (f ac) (f a4)) (n ax (f a5) z)
def g0:BT:=n ab (n ay (f aW) z) (n ac (f aY) z)
def g1:BT:=n aa (f ab) z
def g2:BT:=n ab (f ab) z
def g3:BT:=n aa (f ab) (f aa)
def g4:BT:=n aa (f aa) (f ab)
def g5(P:Params):BT:=n am (n aa (f (aC P)) (f ab)) (n aD (f ad) (f (a9 P)))
def g6:BT:=n aa (n aI (f aJ) (f bb)) (n aK (f ac) (f bc))
end
end TW
namespace PySem.W.Fast
open PySem PySem.W L2 PK TW
noncomputable section
def tw1785822395622766206:Program:=PySem.Challenge.pw_patchkin_k10_whole_recorded_stands
theorem te1785822395622766206:tw1785822395622766206=tw1785822395622766206:=rfl
def tw9152873242224079105:Params->BT:=λP=>n (boot_o_0 P) (n (boot_o_1 P) (n (f6 P) (n (boot_o_7 P) (n aa (n az (f (aL P)) z) (n ag (f aS) z)) (n ab (n ah (f aM) z) (f aa))) (n aa gI (n ai (n aj (f (aU P)) z) (f aB)))) (n (boot_o_5 P) (n (boot_o_9 P) (n ak (n al (f ab) z) (n ac (f (aO P)) z)) (n aa (n aa (f ad) z) (f (ty (cl (S "PatchError") [(w "ValueError")] [(r 57),(w "ValueError"),(w "Exception"),(w "BaseException"),(w "object")] 56 (S "PatchError") true [] [(r 70),(r 82)] false none false) [(k (r 48)),none,(k (v "PatchError" 238)),(k (v "PatchError" 246)),(k (b "ValueError.__new__")),(k (vl true))])))) (n ae (n am (n aa (f (aC P)) z) (f aD)) (n aa (n aE (f ab) z) (f ad))))) (n (boot_o_2 P) (n (boot_o_4 P) (n (boot_o_8 P) (n ab (n an (f aa) z) (n ao (f aa) z)) (n ap (n aq (f aP) z) (f (ar P)))) (n (l3 [(1,0,20),(5,0,27),(13,0,32),(18,0,39),(23,0,46),(34,0,53),(36,0,66),(38,0,78)]) gJ (n aw gK (f aF)))) (n (boot_o_6 P) (n (boot_o_10 P) (n aa (n aa (f aQ) z) (n (aG P) (f aR) z)) (n aH gL (f ax))) (n af (n aa (n aI (f aJ) z) (f aK)) (n ab (n ay (f aW) z) (f ac)))))
theorem te9152873242224079105:tw9152873242224079105=tw9152873242224079105:=rfl
def tw13485998286923319105:Params->BT:=λP=>n (boot_o_0 P) (n (boot_o_1 P) (n (f9 P) (n (boot_o_7 P) (gM P) (n ab (n ah (n aM (f (bs P)) z) (f a6)) (n aa (f (a0 P)) (f be)))) (n aa (gN P) (n ai (n aj (n (aU P) (f bt) z) (f a8)) (n aB (f a1) (f (bm P)))))) (n (boot_o_5 P) (n (boot_o_9 P) (gO P) (n aa (n aa (n ad (f ab) z) (f (a2 P))) (n (ty (cl (S "PatchError") [(w "ValueError")] [(r 57),(w "ValueError"),(w "Exception"),(w "BaseException"),(w "object")] 56 (S "PatchError") true [] [(r 70),(r 82),(r 94),(r 106),(r 118),(r 130),(r 142)] false none false) [(k (r 48)),none,(k (v "PatchError" 238)),(k (v "PatchError" 246)),(k (b "ValueError.__new__")),(k (vl true))]) (f ab) (f ad)))) (n ae (n am (n aa (n (aC P) (f ad) z) (f ab)) (n aD (f ad) (f (a9 P)))) (gP P)))) (n (boot_o_2 P) (n (boot_o_4 P) (n (boot_o_8 P) gQ (n ap (n aq (n aP (f aa) z) (f aa)) (n (ar P) (f aa) (f bh)))) (n (l3 [(1,0,20),(5,0,27),(13,0,32),(18,0,39),(23,0,46),(34,0,53),(36,0,66),(38,0,78),(40,0,90),(42,0,102),(44,0,114),(46,0,126),(48,0,138)]) gR (n aw (n aa gK (f ba)) (n aF (f aa) (f aa))))) (n (boot_o_6 P) (n (boot_o_10 P) (gS P) (n aH (n ab (n ac (f bv) z) (f a4)) (n ax (f a5) (f ac)))) (n af (n aa (n aI (n aJ (f ac) z) (f bb)) (n aK (f ac) (f bc))) gT)))
theorem te13485998286923319105:tw13485998286923319105=tw13485998286923319105:=rfl
def tw2304597026307784996:Params->BT:=λP=>n (boot_o_0 P) (n (boot_o_1 P) (n (gc P) (n (boot_o_7 P) (n aa (n az (n (aL P) (f bk) (f bN)) (n aZ (f (bO P)) (f aa))) (n ag (n aS (f br) (f bP)) (n (bd P) (f bA) z))) (n ab (n ah (n aM (f (bs P)) (f aa)) (n a6 (f aa) (f bQ))) (n aa (n (a0 P) (f bB) (f bR)) (n be (f cg) z)))) (n aa (n aA (n ab (n aN (f bl) (f bS)) (n (a7 P) (f bT) (f bU))) (n aa (n aT (f (bC P)) (f bV)) (n bf (f ac) z))) (n ai (n aj (n (aU P) (f bt) (f bW)) (n a8 (f bD) z)) (n aB (n a1 (f bE) (f aa)) (n (bm P) (f bX) z))))) (n (boot_o_5 P) (n (boot_o_9 P) (n ak (n al (n ab (f (bg P)) (f (bY P))) (n ad (f bZ) (f ch))) (n ac (n (aO P) (f ad) (f aa)) (n ab (f b0) z))) (n aa (n aa (n ad (f ab) (f ci)) (n (a2 P) (f bF) z)) (n bw (n ab (f (bx P)) (f ab)) (n ad (f aa) z)))) (n ae (n am (n aa (n (aC P) (f ad) (f cj)) gU) (n aD (n ad (f ab) (f ck)) (n (a9 P) (f aa) z))) (n aa (n aE (n ab (f (bn P)) (f ab)) (n ad (f bG) z)) (n ad (n (aX P) (f aa) (f b1)) (n ab (f cm) z)))))) (n (boot_o_2 P) (n (boot_o_4 P) (n (boot_o_8 P) (n ab (n an (n aa (f aa) (f b2)) (n a3 (f aa) (f ab))) (n ao (n aa (f bu) (f b3)) (n aa (f b4) z))) (n ap gV (n (ar P) gW (n bh (f cn) z)))) (n (l3 [(1,0,20),(5,0,27),(13,0,32),(18,0,39),(23,0,46),(34,0,53),(36,0,66),(38,0,78),(40,0,90),(42,0,102),(44,0,114),(46,0,126),(48,0,138),(50,0,150),(53,0,162),(60,0,183),(68,0,202),(74,0,207),(79,0,214),(88,0,221),(94,0,226),(101,0,231)]) (n au (n av (n aa (f bo) (f b7)) gW) (n ab (n aV (f aa) (f aa)) (n aa (f (cp P)) z))) (n aw (n aa gW (n ba (f (bH P)) z)) (n aF (n aa (f bI) (f cq)) gK)))) (n (boot_o_6 P) (n (boot_o_10 P) (n aa (n aa (n aQ (f bi) (f b8)) (n ac (f b9) (f ca))) (n (aG P) (n aR (f ac) (f ab)) (n bj (f aa) z))) (n aH (n ab (n ac (f bv) (f cb)) (n a4 (f bJ) z)) (n ax (n a5 (f bz) (f cc)) (n ac (f ab) z)))) (n af (n aa (n aI (n aJ (f ac) (f cr)) (n bb (f bK) (f cs))) (n aK (n ac (f bL) (f cd)) (n bc (f ct) z))) (n ab (n ay (n aW (f bp) (f cu)) (n ac (f bM) z)) (n ac (n aY (f ac) (f ce)) (n bq (f cf) z))))))
theorem te2304597026307784996:tw2304597026307784996=tw2304597026307784996:=rfl
def tw3179293993524221638:Params->BT:=λP=>n (boot_o_0 P) (n (boot_o_1 P) (n (ge P) (n (boot_o_7 P) (n aa (n az (f (aL P)) (f aZ)) (n ag (f aS) z)) (n ab (n ah (f aM) (f a6)) (n aa (f (a0 P)) z))) (n aa (n aA (n ab (f aN) (f (a7 P))) (n aa (f aT) z)) (n ai (n aj (f (aU P)) (f a8)) (n aB (f a1) z)))) (n (boot_o_5 P) (n (boot_o_9 P) (n ak (n al (f ab) (f ad)) (n ac (f (aO P)) z)) (n aa (n aa (f ad) (f (a2 P))) (n (ty (cl (S "PatchError") [(w "ValueError")] [(r 57),(w "ValueError"),(w "Exception"),(w "BaseException"),(w "object")] 56 (S "PatchError") true [] [(r 70),(r 82),(r 94),(r 106)] false none false) [(k (r 48)),none,(k (v "PatchError" 238)),(k (v "PatchError" 246)),(k (b "ValueError.__new__")),(k (vl true))]) (f ab) z))) (n ae (n am (n aa (f (aC P)) (f ab)) (n aD (f ad) z)) (n aa (n aE (f ab) z) (n ad (f (aX P)) z))))) (n (boot_o_2 P) (n (boot_o_4 P) (n (boot_o_8 P) gX (n ap (n aq (f aP) (f aa)) (n (ar P) (f aa) z))) (n (l3 [(1,0,20),(5,0,27),(13,0,32),(18,0,39),(23,0,46),(34,0,53),(36,0,66),(38,0,78),(40,0,90),(42,0,102)]) (n au (n av (f aa) (f aa)) (n ab (f aV) z)) gY)) (n (boot_o_6 P) (n (boot_o_10 P) (n aa (n aa (f aQ) (f ac)) (n (aG P) (f aR) z)) gZ) (n af (n aa (n aI (f aJ) (f bb)) (n aK (f ac) z)) g0)))
theorem te3179293993524221638:tw3179293993524221638=tw3179293993524221638:=rfl
def tw8469358769516463822:Params->BT:=λP=>n (boot_o_0 P) (n (boot_o_1 P) (n (eY P) (n (boot_o_7 P) (n aa (n az (n (aL P) (n bk (n aa (f fQ) z) (f d9)) (n bN (n c7 (f eZ) z) (f ab))) (n aZ (n (bO P) (n cI (f e0) z) (f aa)) (n aa (f ea) (f aa)))) (n ag (n aS (n br (n aa (f e1) z) (f aa)) (n bP (f ab) (f eb))) (n (bd P) (n bA (n c8 (f e2) z) (f e3)) (n cv (f aa) (f ec))))) (n ab (n ah (n aM (n (bs P) (n cw (f e4) z) (f aa)) (n aa (n aa (f (fv "law" "law" (x 53))) z) (f e5))) (n a6 (n aa g1 (f aa)) (n bQ (f dA) (f ab)))) (n aa (n (a0 P) (n bB (n ab (f e6) z) (f dB)) (n bR (f dC) (f ed))) (n be (n cg (n c9 (f aa) z) (f aa)) (n aa (f ab) (f ee)))))) (n aa (n aA (n ab (n aN (n bl g1 (f ab)) (n bS (n aa (f e7) z) (f ef))) (n (a7 P) (n bT (n cJ (f fS) z) (f dD)) (n bU (f dE) (f e8)))) (n aa (n aT (n (bC P) (n da (f e9) z) (f aa)) (n bV (f db) (f eg))) (n bf (n ac (n (cK P) (f fa) z) (f ab)) (n aa (f eh) (f ei))))) (n ai (n aj (n (aU P) (n bt (n aa (f fb) z) (f dF)) (n bW (f dG) (f ab))) (n a8 (n bD (n aa (f fc) z) (f aa)) (n cx (f aa) (f ej)))) (n aB (n a1 (n bE (n cL (f fe) z) (f aa)) (n aa (f ac) (f aa))) (n (bm P) (n bX (n dc (f aa) z) (f ff)) (n cy (f dH) (f aa))))))) (n (boot_o_5 P) (n (boot_o_9 P) (n ak (n al (n ab (n (bg P) (n cz (f fg) z) (f dI)) (n (bY P) g2 (f aa))) (n ad (n bZ (n df (f aa) z) (f ek)) (n ch (f aa) (f el)))) (n ac (n (aO P) (n ad (n cM (f ab) z) (f dJ)) gW) (n ab (n b0 (n cN (f fT) z) (f em)) (n ab (f dK) (f fh))))) (n aa (n aa (n ad (n ab (n ac (f aa) z) (f en)) (n ci (n dg (f fi) z) (f eo))) (n (a2 P) (n bF (n cO (f aa) z) (f dL)) g3)) (n bw (n ab (n (bx P) (n aa (f fU) z) (f ab)) (n ab (f dh) (f ab))) (n ad (n aa (n aa (f fj) z) (f ep)) (n cP (f aa) (f fk)))))) (n ae (n am (n aa (n (aC P) (n ad (n cQ (f aa) z) (f dM)) (n cj (n di (f aa) z) (f aa))) (n ab (n ab (n ab (f fm) z) (f ab)) (n ab (f eq) (f er)))) (n aD (n ad (n ab (n cR (f aa) z) (f es)) (n ck (f aa) (f fo))) (n (a9 P) (n aa (n cS (f ab) z) (f et)) (n cA (f dN) (f (eu P)))))) (n aa (n aE (n ab (n (bn P) (n dj (f fV) z) (f ab)) (n ab (f dk) (f aa))) (n ad (n bG (n cT (f aa) z) (f ev)) (n cU (f dO) (f aa)))) (n ad (n (aX P) (n aa g1 (f dP)) (n b1 (f aa) (f ew))) (n ab (n cm (n dQ (f fW) z) (f ex)) (n ab (f aa) (f fp)))))))) (n (boot_o_2 P) (n (boot_o_4 P) (n (boot_o_8 P) (n ab (n an (n aa (n aa (n cV (f fq) z) (f dR)) (n b2 gK (f ey))) (n a3 (n aa (n aa (f fs) z) (f ab)) (n ab (f ez) (f ab)))) (n ao (n aa (n bu (n ab (f aa) z) (f eA)) (n b3 (f dl) (f eB))) (n aa (n b4 (n cW (f aa) z) (f eC)) g3))) (n ap (n aq (n aP (n aa (n aa (f ft) z) (f ab)) (n ab (n ab (f fu) z) (f eD))) (n aa (n b5 (n dm (f fw) z) (f eE)) (n b6 (f aa) (f eF)))) (n (ar P) (n aa (n aa (n cX (f aa) z) (f aa)) (n aa (f dn) (f aa))) (n bh (n cn (n dp (f fX) z) (f ab)) (n ab (f dS) (f eG)))))) (n fY (n au (n av (n aa (n bo (n ab (f fx) z) (f eH)) (n b7 (n dT (f fy) z) (f eI))) (n aa (n aa (n aa (f fz) z) (f aa)) (n aa (f aa) (f eJ)))) (n ab (n aV (n aa (n cY (f fA) z) (f ab)) (n aa (f dq) (f aa))) (n aa (n (cp P) (n cZ (f aa) z) (f fB)) (n c0 (f dU) (f eK))))) (n aw (n aa (n aa (n aa (n dr (f aa) z) (f aa)) (n aa (f ds) (f eL))) (n ba (n (bH P) (n ab (f fC) z) (f ab)) (n aa (f eM) (f eN)))) (n aF (n aa (n bI (n c1 (f aa) z) (f eO)) (n cq (f (fD P)) (f fE))) (n aa (n aa g1 (f eP)) (n aa (f dV) (f ab))))))) (n (boot_o_6 P) (n (boot_o_10 P) (n aa (n aa (n aQ (n bi (n cB (f aa) z) (f aa)) (n b8 (n du (f fZ) z) (f fF))) (n ac (n b9 (n c2 (f ab) z) (f dW)) (n ca (f ab) (f aa)))) (n (aG P) (n aR (n ac (n aa (f f0) z) (f dX)) (n ab (f dY) (f ab))) (n bj (n aa (n c3 (f fG) z) (f aa)) (n cC (f aa) (f eQ))))) (n aH (n ab (n ac (n bv (n (dv P) (f ab) z) (f dZ)) (n cb (f aa) (f aa))) (n a4 (n bJ (n c4 (f f1) z) (f eR)) (n ab (f d0) (f fH)))) (n ax (n a5 (n bz (n dw (f fI) z) (f d1)) (n cc (f aa) (f eS))) (n ac (n ab (n ab (f fJ) z) (f aa)) (n cD (f eT) (f fK)))))) (n af (n aa (n aI (n aJ (n ac (n cE (f f2) z) (f d2)) (n cr (n dx (f ab) z) (f ab))) (n bb (n bK (n c5 (f aa) z) (f d3)) (n cs (f d4) (f aa)))) (n aK (n ac (n bL g1 (f d5)) (n cd (f ab) (f eU))) (n bc (n ct (n c6 (f fL) z) (f eV)) (n cF (f aa) (f eW))))) (n ab (n ay (n aW (n bp (n dy (f fM) z) (f d6)) (n cu (f aa) (f fN))) (n ac (n bM g1 (f aa)) (n cG (f d7) (f ab)))) (n ac (n aY (n ac (n ab (f f3) z) (f d8)) (n ce (f fO) (f eX))) (n bq (n cf (n dz (f fP) z) (f aa)) (n cH (f ab) (f aa))))))))
theorem te8469358769516463822:tw8469358769516463822=tw8469358769516463822:=rfl
noncomputable def tw2738947728845789455:Params->BT:=λP=>n (boot_o_0 P) (n (boot_o_1 P) (n (f4 P) (n (boot_o_7 P) (n aa (n az (n (aL P) (n bk (f aa) (f d9)) (n bN (f c7) z)) (n aZ (n (bO P) (f cI) (f aa)) (n aa (f ea) z))) (n ag (n aS (n br (f aa) (f aa)) (n bP (f ab) z)) (n (bd P) (n bA (f c8) z) (n cv (f aa) z)))) (n ab (n ah (n aM (n (bs P) (f cw) (f aa)) gK) (n a6 gW (n bQ (f dA) z))) (n aa (n (a0 P) (n bB (f ab) (f dB)) (n bR (f dC) z)) (n be (n cg (f c9) z) g1)))) (n aa (n aA (n ab (n aN (n bl (f aa) (f ab)) (n bS (f aa) z)) (n (a7 P) (n bT (f cJ) (f dD)) (n bU (f dE) z))) (n aa (n aT (n (bC P) (f da) (f aa)) (n bV (f db) z)) (n bf (n ac (f (cK P)) z) (n aa (f eh) z)))) (n ai (n aj (n (aU P) (n bt (f aa) (f dF)) (n bW (f dG) z)) (n a8 (n bD (f aa) z) (n cx (f aa) z))) (n aB (n a1 (n bE (f cL) (f aa)) (n aa (f ac) z)) (n (bm P) (n bX (f dc) z) (n cy (f dH) z)))))) (n (boot_o_5 P) (n (boot_o_9 P) (n ak (n al (n ab (n (bg P) (f cz) (f dI)) (n (bY P) (f ab) z)) (n ad (n bZ (f df) (f ek)) (n ch (f aa) z))) (n ac (n (aO P) (n ad (f cM) (f dJ)) gK) (n ab (n b0 (f cN) z) (n ab (f dK) z)))) (n aa (n aa (n ad (n ab (f ac) (f en)) (n ci (f dg) z)) (n (a2 P) (n bF (f cO) (f dL)) g1)) (n bw (n ab (n (bx P) (f aa) (f ab)) (n ab (f dh) z)) (n ad gK (n cP (f aa) z))))) (n ae (n am (n aa (n (aC P) (n ad (f cQ) (f dM)) (n cj (f di) z)) (n ab gU (n ab (f eq) z))) (n aD (n ad (n ab (f cR) (f es)) (n ck (f aa) z)) (n (a9 P) (n aa (f cS) z) (n cA (f dN) z)))) (n aa (n aE (n ab (n (bn P) (f dj) (f ab)) (n ab (f dk) z)) (n ad (n bG (f cT) z) (n cU (f dO) z))) (n ad (n (aX P) (n aa (f aa) (f dP)) (n b1 (f aa) z)) (n ab (n cm (f dQ) z) (n ab (f aa) z))))))) (n (boot_o_2 P) (n (boot_o_4 P) (n (boot_o_8 P) (n ab (n an (n aa (n aa (f cV) (f dR)) (n b2 (f aa) z)) (n a3 g4 (n ab (f ez) z))) (n ao (n aa (n bu (f ab) (f eA)) (n b3 (f dl) z)) (n aa (n b4 (f cW) z) g1))) (n ap (n aq (n aP g4 g2) (n aa (n b5 (f dm) (f eE)) (n b6 (f aa) z))) (n (ar P) (n aa (n aa (f cX) (f aa)) (n aa (f dn) z)) (n bh (n cn (f dp) z) (n ab (f dS) z))))) (n f5 (n au (n av (n aa (n bo (f ab) (f eH)) (n b7 (f dT) z)) (n aa gW gK)) (n ab (n aV (n aa (f cY) (f ab)) (n aa (f dq) z)) (n aa (n (cp P) (f cZ) z) (n c0 (f dU) z)))) (n aw (n aa (n aa (n aa (f dr) (f aa)) (n aa (f ds) z)) (n ba (n (bH P) (f ab) z) (n aa (f eM) z))) (n aF (n aa (n bI (f c1) (f eO)) (n cq (f (dt [(d P "__module__" 666 (v "patchkin.desk" 605)),(d P "__qualname__" 668 (v "Desk" 667)),(d P "__firstlineno__" 670 (vi 217 669)),(d P "__init__" 677 (r 359)),(d P "begin" 685 (r 366)),(d P "stores" 692 (r 373)),(d P "patches" 699 (r 380)),(d P "has" 705 (r 385)),(d P "record" 711 (r 390)),(d P "cut" 717 (r 395)),(d P "back" 727 (r 402)),(d P "take" 733 (r 407)),(d P "drop" 743 (r 414)),(d P "leans" 749 (r 419))] 14)) z)) (n aa gK (n aa (f dV) z)))))) (n (boot_o_6 P) (n (boot_o_10 P) (n aa (n aa (n aQ (n bi (f cB) (f aa)) (n b8 (f du) z)) (n ac (n b9 (f c2) (f dW)) (n ca (f ab) z))) (n (aG P) (n aR (n ac (f aa) (f dX)) (n ab (f dY) z)) (n bj (n aa (f c3) z) (n cC (f aa) z)))) (n aH (n ab (n ac (n bv (f (dv P)) (f dZ)) (n cb (f aa) z)) (n a4 (n bJ (f c4) z) (n ab (f d0) z))) (n ax (n a5 (n bz (f dw) (f d1)) (n cc (f aa) z)) (n ac g2 (n cD (f eT) z))))) (n af (n aa (n aI (n aJ (n ac (f cE) (f d2)) (n cr (f dx) z)) (n bb (n bK (f c5) (f d3)) (n cs (f d4) z))) (n aK (n ac (n bL (f aa) (f d5)) (n cd (f ab) z)) (n bc (n ct (f c6) z) (n cF (f aa) z)))) (n ab (n ay (n aW (n bp (f dy) (f d6)) (n cu (f aa) z)) (n ac (n bM (f aa) z) (n cG (f d7) z))) (n ac (n aY (n ac (f ab) (f d8)) (n ce (f (l3 [(219,4,358),(224,4,365),(230,4,372),(233,4,379),(236,4,384),(240,4,389),(250,4,394),(259,4,401),(265,4,406),(275,4,413),(283,4,418),(287,4,425)])) z)) (n bq (n cf (f dz) z) (n cH (f ab) z)))))))
theorem te2738947728845789455:tw2738947728845789455=tw2738947728845789455:=rfl
def tw13784841106394078962:Params->BT:=λP=>n (boot_o_0 P) (n (boot_o_1 P) (n (gj P) (n (boot_o_7 P) (n aa (n az (n (aL P) (n bk (f aa) z) (f bN)) (n aZ (f (bO P)) (f aa))) (n ag (n aS (f br) (f bP)) (n (bd P) (f bA) (f cv)))) (n ab (n ah (n aM (n (bs P) (f cw) z) (f aa)) (n a6 (f aa) (f bQ))) (n aa (n (a0 P) (f bB) (f bR)) (n be (f cg) (f aa))))) (n aa (n aA (n ab (n aN (n bl (f aa) z) (f bS)) (n (a7 P) (f bT) (f bU))) (n aa (n aT (f (bC P)) (f bV)) (n bf (f ac) (f aa)))) (n ai (n aj (n (aU P) (f bt) (f bW)) (n a8 (f bD) (f cx))) (n aB (n a1 (f bE) (f aa)) (n (bm P) (f bX) (f cy)))))) (n (boot_o_5 P) (n (boot_o_9 P) (n ak (n al (n ab (n (bg P) (f cz) z) (f (bY P))) (n ad (f bZ) (f ch))) (n ac (n (aO P) (f ad) (f aa)) (n ab (f b0) (f ab)))) (n aa (n aa (n ad (f ab) (f ci)) (n (a2 P) (f bF) (f aa))) (n bw (n ab (f (bx P)) (f ab)) (n ad (f aa) (f cP))))) (n ae (n am (n aa (n (aC P) (n ad (f cQ) z) (f cj)) gU) (n aD (n ad (f ab) (f ck)) (n (a9 P) (f aa) (f cA)))) (n aa (n aE (n ab (f (bn P)) (f ab)) (n ad (f bG) (f cU))) (n ad (n (aX P) (f aa) (f b1)) (n ab (f cm) (f ab))))))) (n (boot_o_2 P) (n (boot_o_4 P) (n (boot_o_8 P) (n ab (n an (n aa (n aa (f cV) z) (f b2)) (n a3 (f aa) (f ab))) (n ao (n aa (f bu) (f b3)) (n aa (f b4) (f aa)))) (n ap gV (n (ar P) gW (n bh (f cn) (f ab))))) (n (l3 [(1,0,20),(5,0,27),(13,0,32),(18,0,39),(23,0,46),(34,0,53),(36,0,66),(38,0,78),(40,0,90),(42,0,102),(44,0,114),(46,0,126),(48,0,138),(50,0,150),(53,0,162),(60,0,183),(68,0,202),(74,0,207),(79,0,214),(88,0,221),(94,0,226),(101,0,231),(104,0,238),(114,0,245),(120,0,250),(136,0,257),(141,0,262)]) (n au (n av (n aa (n bo (f ab) z) (f b7)) gW) (n ab (n aV (f aa) (f aa)) (n aa (f (cp P)) (f c0)))) (n aw (n aa gW (n ba (f (bH P)) (f aa))) (n aF (n aa (f bI) (f cq)) gW)))) (n (boot_o_6 P) (n (boot_o_10 P) (n aa (n aa (n aQ (n bi (f cB) z) (f b8)) (n ac (f b9) (f ca))) (n (aG P) (n aR (f ac) (f ab)) (n bj (f aa) (f cC)))) (n aH (n ab (n ac (f bv) (f cb)) (n a4 (f bJ) (f ab))) (n ax (n a5 (f bz) (f cc)) (n ac (f ab) (f cD))))) (n af (n aa (n aI (n aJ (n ac (f cE) z) (f cr)) (n bb (f bK) (f cs))) (n aK (n ac (f bL) (f cd)) (n bc (f ct) (f cF)))) (n ab (n ay (n aW (f bp) (f cu)) (n ac (f bM) (f cG))) (n ac (n aY (f ac) (f ce)) (n bq (f cf) (f cH)))))))
theorem te13784841106394078962:tw13784841106394078962=tw13784841106394078962:=rfl
def tw10152316236713773044:Params->BT:=λP=>n (boot_o_0 P) (n (boot_o_1 P) (n (gl P) (n (boot_o_7 P) (n aa (n az (f (aL P)) (f aZ)) (n ag (f aS) (f (bd P)))) (n ab (n ah (f aM) (f a6)) (n aa (f (a0 P)) (f be)))) (n aa (n aA (n ab (f aN) (f (a7 P))) (n aa (f aT) (f bf))) (n ai (n aj (f (aU P)) (f a8)) (n aB (f a1) z)))) (n (boot_o_5 P) (n (boot_o_9 P) (n ak (n al (f ab) (f ad)) (n ac (f (aO P)) (f ab))) (n aa (n aa (f ad) (f (a2 P))) (n (ty (cl (S "PatchError") [(w "ValueError")] [(r 57),(w "ValueError"),(w "Exception"),(w "BaseException"),(w "object")] 56 (S "PatchError") true [] [(r 70),(r 82),(r 94),(r 106),(r 118)] false none false) [(k (r 48)),none,(k (v "PatchError" 238)),(k (v "PatchError" 246)),(k (b "ValueError.__new__")),(k (vl true))]) (f ab) z))) (n ae (g5 P) (n aa (n aE (f ab) (f ad)) (n ad (f (aX P)) z))))) (n (boot_o_2 P) (n (boot_o_4 P) (n (boot_o_8 P) (n ab (n an (f aa) (f a3)) (n ao (f aa) (f aa))) (n ap (n aq (f aP) (f aa)) (n (ar P) (f aa) (f bh)))) (n (l3 [(1,0,20),(5,0,27),(13,0,32),(18,0,39),(23,0,46),(34,0,53),(36,0,66),(38,0,78),(40,0,90),(42,0,102),(44,0,114)]) (n au (n av (f aa) (f aa)) (n ab (f aV) (f aa))) gY)) (n (boot_o_6 P) (n (boot_o_10 P) (n aa (n aa (f aQ) (f ac)) (n (aG P) (f aR) (f bj))) gZ) (n af g6 (n ab (n ay (f aW) (f ac)) (n ac (f aY) z)))))
theorem te10152316236713773044:tw10152316236713773044=tw10152316236713773044:=rfl
def tw13901760214960150295:Params->BT:=λP=>n (boot_o_0 P) (n (boot_o_1 P) (n (go P) (n (boot_o_7 P) (n aa (n az (f (aL P)) (f aZ)) (n ag (f aS) z)) (n ab (n ah (f aM) z) (n aa (f (a0 P)) z))) (n aa gI (n ai (n aj (f (aU P)) z) (n aB (f a1) z)))) (n (boot_o_5 P) (n (boot_o_9 P) (n ak (n al (f ab) z) (n ac (f (aO P)) z)) (n aa (n aa (f ad) z) (n (ty (cl (S "PatchError") [(w "ValueError")] [(r 57),(w "ValueError"),(w "Exception"),(w "BaseException"),(w "object")] 56 (S "PatchError") true [] [(r 70),(r 82),(r 94)] false none false) [(k (r 48)),none,(k (v "PatchError" 238)),(k (v "PatchError" 246)),(k (b "ValueError.__new__")),(k (vl true))]) (f ab) z))) (n ae (n am (n aa (f (aC P)) z) (n aD (f ad) z)) (n aa (n aE (f ab) z) (n ad (f (aX P)) z))))) (n (boot_o_2 P) (n (boot_o_4 P) (n (boot_o_8 P) gX (n ap (n aq (f aP) z) (n (ar P) (f aa) z))) (n (l3 [(1,0,20),(5,0,27),(13,0,32),(18,0,39),(23,0,46),(34,0,53),(36,0,66),(38,0,78),(40,0,90)]) gJ (n aw gK (n aF (f aa) z)))) (n (boot_o_6 P) (n (boot_o_10 P) (n aa (n aa (f aQ) z) (n (aG P) (f aR) z)) (n aH gL (n ax (f a5) z))) (n af (n aa (n aI (f aJ) z) (n aK (f ac) z)) g0)))
theorem te13901760214960150295:tw13901760214960150295=tw13901760214960150295:=rfl
def tw17304326251859685207:Params->BT:=λP=>n (boot_o_0 P) (n (boot_o_1 P) (n (gr P) (n (boot_o_7 P) (n aa (f az) (f ag)) (n ab (f ah) (f aa))) (n aa (n aA (f ab) (f aa)) (n ai (f aj) (f aB)))) (n (boot_o_5 P) (n (boot_o_9 P) (n ak (f al) (f ac)) (n aa (f aa) (f (ty (cl (S "PatchError") [(w "ValueError")] [(r 57),(w "ValueError"),(w "Exception"),(w "BaseException"),(w "object")] 56 (S "PatchError") true [] [] false none false) [(k (r 48)),none,(k (v "PatchError" 238)),(k (v "PatchError" 246)),(k (b "ValueError.__new__")),(k (vl true))])))) (n ae (n am (f aa) (f aD)) (n aa (f aE) z)))) (n (boot_o_2 P) (n (boot_o_4 P) (n (boot_o_8 P) (n ab (f an) (f ao)) (n ap (f aq) (f (ar P)))) (n (l3 [(1,0,20),(5,0,27),(13,0,32),(18,0,39),(23,0,46),(34,0,53)]) (n au (f av) (f ab)) (n aw (f aa) (f aF)))) (n (boot_o_6 P) (n (boot_o_10 P) (n aa (f aa) (f (aG P))) (n aH (f ab) (f ax))) (n af (n aa (f aI) (f aK)) (n ab (f ay) z))))
theorem te17304326251859685207:tw17304326251859685207=tw17304326251859685207:=rfl
def tw16301308704489895672:Params->BT:=λP=>n (boot_o_0 P) (n (boot_o_1 P) (n (gu P) (n (boot_o_7 P) (n aa (n az (n (aL P) (n bk (f aa) (f d9)) (n bN (f c7) (f ab))) (n aZ (n (bO P) (f cI) (f aa)) (n aa (f ea) (f aa)))) (n ag (n aS (n br (f aa) (f aa)) (n bP (f ab) (f eb))) (n (bd P) (n bA (f c8) (f e3)) (n cv (f aa) (f ec))))) (n ab (n ah (n aM (n (bs P) (f cw) (f aa)) (n aa (f aa) (f e5))) (n a6 gW (n bQ (f dA) (f ab)))) (n aa (n (a0 P) (n bB (f ab) (f dB)) (n bR (f dC) (f ed))) (n be (n cg (f c9) (f aa)) (n aa (f ab) (f ee)))))) (n aa (n aA (n ab (n aN (n bl (f aa) (f ab)) (n bS (f aa) (f ef))) (n (a7 P) (n bT (f cJ) (f dD)) (n bU (f dE) (f e8)))) (n aa (n aT (n (bC P) (f da) (f aa)) (n bV (f db) (f eg))) (n bf (n ac (f (cK P)) (f ab)) (n aa (f eh) (f ei))))) (n ai (n aj (n (aU P) (n bt (f aa) (f dF)) (n bW (f dG) (f ab))) (n a8 (n bD (f aa) (f aa)) (n cx (f aa) (f ej)))) (n aB (n a1 (n bE (f cL) (f aa)) (n aa (f ac) (f aa))) (n (bm P) (n bX (f dc) (f ff)) (n cy (f dH) z)))))) (n (boot_o_5 P) (n (boot_o_9 P) (n ak (n al (n ab (n (bg P) (f cz) (f dI)) (n (bY P) (f ab) (f aa))) (n ad (n bZ (f df) (f ek)) (n ch (f aa) (f el)))) (n ac (n (aO P) (n ad (f cM) (f dJ)) gW) (n ab (n b0 (f cN) (f em)) (n ab (f dK) (f fh))))) (n aa (n aa (n ad (n ab (f ac) (f en)) (n ci (f dg) (f eo))) (n (a2 P) (n bF (f cO) (f dL)) g3)) (n bw (n ab (n (bx P) (f aa) (f ab)) (n ab (f dh) (f ab))) (n ad (n aa (f aa) (f ep)) (n cP (f aa) (f fk)))))) (n ae (n am (n aa (n (aC P) (n ad (f cQ) (f dM)) (n cj (f di) (f aa))) (n ab gU (n ab (f eq) (f er)))) (n aD (n ad (n ab (f cR) (f es)) (n ck (f aa) (f fo))) (n (a9 P) (n aa (f cS) (f et)) (n cA (f dN) (f (eu P)))))) (n aa (n aE (n ab (n (bn P) (f dj) (f ab)) (n ab (f dk) (f aa))) (n ad (n bG (f cT) (f ev)) (n cU (f dO) (f aa)))) (n ad (n (aX P) (n aa (f aa) (f dP)) (n b1 (f aa) (f ew))) (n ab (n cm (f dQ) (f ex)) (n ab (f aa) z))))))) (n (boot_o_2 P) (n (boot_o_4 P) (n (boot_o_8 P) (n ab (n an (n aa (n aa (f cV) (f dR)) (n b2 (f aa) (f ey))) (n a3 g4 (n ab (f ez) (f ab)))) (n ao (n aa (n bu (f ab) (f eA)) (n b3 (f dl) (f eB))) (n aa (n b4 (f cW) (f eC)) g3))) (n ap (n aq (n aP g4 (n ab (f ab) (f eD))) (n aa (n b5 (f dm) (f eE)) (n b6 (f aa) (f eF)))) (n (ar P) (n aa (n aa (f cX) (f aa)) (n aa (f dn) (f aa))) (n bh (n cn (f dp) (f ab)) (n ab (f dS) (f eG)))))) (n f5 (n au (n av (n aa (n bo (f ab) (f eH)) (n b7 (f dT) (f eI))) (n aa gW (n aa (f aa) (f eJ)))) (n ab (n aV (n aa (f cY) (f ab)) (n aa (f dq) (f aa))) (n aa (n (cp P) (f cZ) (f fB)) (n c0 (f dU) (f eK))))) (n aw (n aa (n aa (n aa (f dr) (f aa)) (n aa (f ds) (f eL))) (n ba (n (bH P) (f ab) (f ab)) (n aa (f eM) (f eN)))) (n aF (n aa (n bI (f c1) (f eO)) (n cq (f (fD P)) (f fE))) (n aa (n aa (f aa) (f eP)) (n aa (f dV) z)))))) (n (boot_o_6 P) (n (boot_o_10 P) (n aa (n aa (n aQ (n bi (f cB) (f aa)) (n b8 (f du) (f fF))) (n ac (n b9 (f c2) (f dW)) (n ca (f ab) (f aa)))) (n (aG P) (n aR (n ac (f aa) (f dX)) (n ab (f dY) (f ab))) (n bj (n aa (f c3) (f aa)) (n cC (f aa) (f eQ))))) (n aH (n ab (n ac (n bv (f (dv P)) (f dZ)) (n cb (f aa) (f aa))) (n a4 (n bJ (f c4) (f eR)) (n ab (f d0) (f fH)))) (n ax (n a5 (n bz (f dw) (f d1)) (n cc (f aa) (f eS))) (n ac (n ab (f ab) (f aa)) (n cD (f eT) (f fK)))))) (n af (n aa (n aI (n aJ (n ac (f cE) (f d2)) (n cr (f dx) (f ab))) (n bb (n bK (f c5) (f d3)) (n cs (f d4) (f aa)))) (n aK (n ac (n bL (f aa) (f d5)) (n cd (f ab) (f eU))) (n bc (n ct (f c6) (f eV)) (n cF (f aa) (f eW))))) (n ab (n ay (n aW (n bp (f dy) (f d6)) (n cu (f aa) (f fN))) (n ac (n bM (f aa) (f aa)) (n cG (f d7) (f ab)))) (n ac (n aY (n ac (f ab) (f d8)) (n ce (f fO) (f eX))) (n bq (n cf (f dz) (f aa)) (n cH (f ab) z)))))))
theorem te16301308704489895672:tw16301308704489895672=tw16301308704489895672:=rfl
def tw12224975915367497785:Params->BT:=λP=>n (boot_o_0 P) (n (boot_o_1 P) (n (boot_o_3 P) (f (boot_o_7 P)) (f aa)) (n (boot_o_5 P) (f (boot_o_9 P)) (f ae))) (n (boot_o_2 P) (n (boot_o_4 P) (f (boot_o_8 P)) (f ab)) (n (boot_o_6 P) (f (boot_o_10 P)) (f af)))
theorem te12224975915367497785:tw12224975915367497785=tw12224975915367497785:=rfl
def tw9957345961069143834:Params->BT:=λP=>n (boot_o_0 P) (n (boot_o_1 P) (n (gv P) (n (boot_o_7 P) (n aa (n az (n (aL P) (f bk) z) (n aZ (f (bO P)) z)) (n ag (n aS (f br) z) (n (bd P) (f bA) z))) (n ab (n ah (n aM (f (bs P)) z) (n a6 (f aa) z)) (n aa (n (a0 P) (f bB) z) (f be)))) (n aa (n aA (n ab (n aN (f bl) z) (n (a7 P) (f bT) z)) (n aa (n aT (f (bC P)) z) (f bf))) (n ai (n aj (n (aU P) (f bt) z) (n a8 (f bD) z)) (n aB (n a1 (f bE) z) (f (bm P)))))) (n (boot_o_5 P) (n (boot_o_9 P) (n ak (n al (n ab (f (bg P)) z) (n ad (f bZ) z)) (n ac (n (aO P) (f ad) z) (n ab (f b0) z))) (n aa (n aa (n ad (f ab) z) (n (a2 P) (f bF) z)) (n bw (n ab (f (bx P)) z) (f ad)))) (n ae (n am (n aa (n (aC P) (f ad) z) g2) (n aD (n ad (f ab) z) (f (a9 P)))) (n aa (n aE (n ab (f (bn P)) z) (n ad (f bG) z)) (n ad (n (aX P) (f aa) z) (f ab)))))) (n (boot_o_2 P) (n (boot_o_4 P) (n (boot_o_8 P) (n ab (n an gK (n a3 (f aa) z)) (n ao (n aa (f bu) z) (n aa (f b4) z))) (n ap (n aq (n aP (f aa) z) (n aa (f b5) z)) (n (ar P) gK (f bh)))) (n (l3 [(1,0,20),(5,0,27),(13,0,32),(18,0,39),(23,0,46),(34,0,53),(36,0,66),(38,0,78),(40,0,90),(42,0,102),(44,0,114),(46,0,126),(48,0,138),(50,0,150),(53,0,162)]) (n au (n av (n aa (f bo) z) gK) (n ab (n aV (f aa) z) (f aa))) (n aw (n aa gK (n ba (f (bH P)) z)) (n aF (n aa (f bI) z) (f aa))))) (n (boot_o_6 P) (n (boot_o_10 P) (n aa (n aa (n aQ (f bi) z) (n ac (f b9) z)) (n (aG P) (n aR (f ac) z) (f bj))) (n aH (n ab (n ac (f bv) z) (n a4 (f bJ) z)) (n ax (n a5 (f bz) z) (f ac)))) (n af (n aa (n aI (n aJ (f ac) z) (n bb (f bK) z)) (n aK (n ac (f bL) z) (f bc))) (n ab (n ay (n aW (f bp) z) (n ac (f bM) z)) (n ac (n aY (f ac) z) (f bq))))))
theorem te9957345961069143834:tw9957345961069143834=tw9957345961069143834:=rfl
def tw7434309279443320860:Params->BT:=λP=>n (boot_o_0 P) (n (boot_o_1 P) (n (f4 P) (n (boot_o_7 P) (n aa (n az (n (aL P) (n bk (f aa) z) (n bN (f c7) z)) (n aZ (n (bO P) (f cI) z) (f aa))) (n ag (n aS (n br (f aa) z) (n bP (f ab) z)) (n (bd P) (n bA (f c8) z) (f cv)))) (n ab (n ah (n aM (n (bs P) (f cw) z) gK) (n a6 gK (f bQ))) (n aa (n (a0 P) (n bB (f ab) z) (n bR (f dC) z)) (n be (n cg (f c9) z) (f aa))))) (n aa (n aA (n ab (n aN (n bl (f aa) z) (n bS (f aa) z)) (n (a7 P) (n bT (f cJ) z) (f bU))) (n aa (n aT (n (bC P) (f da) z) (n bV (f db) z)) (n bf (n ac (f (cK P)) z) (f aa)))) (n ai (n aj (n (aU P) (n bt (f aa) z) (n bW (f dG) z)) (n a8 (n bD (f aa) z) (f cx))) (n aB (n a1 (n bE (f cL) z) (f aa)) (n (bm P) (n bX (f dc) z) (f cy)))))) (n (boot_o_5 P) (n (boot_o_9 P) (n ak (n al (n ab (n (bg P) (f cz) z) (n (bY P) (f ab) z)) (n ad (n bZ (f df) z) (f ch))) (n ac (n (aO P) (n ad (f cM) z) gK) (n ab (n b0 (f cN) z) (f ab)))) (n aa (n aa (n ad gL (n ci (f dg) z)) (n (a2 P) (n bF (f cO) z) (f aa))) (n bw (n ab (n (bx P) (f aa) z) (n ab (f dh) z)) (n ad gK (f cP))))) (n ae (n am (n aa (n (aC P) (n ad (f cQ) z) (n cj (f di) z)) (n ab g2 (f ab))) (n aD (n ad (n ab (f cR) z) (n ck (f aa) z)) (n (a9 P) (n aa (f cS) z) (f cA)))) (n aa (n aE (n ab (n (bn P) (f dj) z) (n ab (f dk) z)) (n ad (n bG (f cT) z) (f cU))) (n ad (n (aX P) gK (f b1)) (n ab (n cm (f dQ) z) (f ab))))))) (n (boot_o_2 P) (n (boot_o_4 P) (n (boot_o_8 P) (n ab (n an (n aa (n aa (f cV) z) (n b2 (f aa) z)) (n a3 gK (f ab))) (n ao (n aa (n bu (f ab) z) (n b3 (f dl) z)) (n aa (n b4 (f cW) z) (f aa)))) (n ap (n aq (n aP gK g2) (n aa (n b5 (f dm) z) (f b6))) (n (ar P) (n aa (n aa (f cX) z) (n aa (f dn) z)) (n bh (n cn (f dp) z) (f ab))))) (n (l3 [(1,0,20),(5,0,27),(13,0,32),(18,0,39),(23,0,46),(34,0,53),(36,0,66),(38,0,78),(40,0,90),(42,0,102),(44,0,114),(46,0,126),(48,0,138),(50,0,150),(53,0,162),(60,0,183),(68,0,202),(74,0,207),(79,0,214),(88,0,221),(94,0,226),(101,0,231),(104,0,238),(114,0,245),(120,0,250),(136,0,257),(141,0,262),(156,0,269),(181,0,318),(187,0,325),(193,0,332),(198,0,339),(209,0,344)]) (n au (n av (n aa (n bo (f ab) z) (n b7 (f dT) z)) (n aa gK (f aa))) (n ab (n aV (n aa (f cY) z) (n aa (f dq) z)) (n aa (n (cp P) (f cZ) z) (f c0)))) (n aw (n aa (n aa (n aa (f dr) z) (n aa (f ds) z)) (n ba (n (bH P) (f ab) z) (f aa))) (n aF (n aa (n bI (f c1) z) (f cq)) (n aa gK (f aa)))))) (n (boot_o_6 P) (n (boot_o_10 P) (n aa (n aa (n aQ (n bi (f cB) z) (n b8 (f du) z)) (n ac (n b9 (f c2) z) (f ca))) (n (aG P) (n aR (n ac (f aa) z) (n ab (f dY) z)) (n bj (n aa (f c3) z) (f cC)))) (n aH (n ab (n ac (n bv (f (dv P)) z) (n cb (f aa) z)) (n a4 (n bJ (f c4) z) (f ab))) (n ax (n a5 (n bz (f dw) z) (f cc)) (n ac g2 (f cD))))) (n af (n aa (n aI (n aJ (n ac (f cE) z) (n cr (f dx) z)) (n bb (n bK (f c5) z) (f cs))) (n aK (n ac (n bL (f aa) z) (n cd (f ab) z)) (n bc (n ct (f c6) z) (f cF)))) (n ab (n ay (n aW (n bp (f dy) z) (n cu (f aa) z)) (n ac (n bM (f aa) z) (f cG))) (n ac (n aY (n ac (f ab) z) (f ce)) (n bq (n cf (f dz) z) (f cH)))))))
theorem te7434309279443320860:tw7434309279443320860=tw7434309279443320860:=rfl
def tw2450897063885453180:Params->BT:=λP=>n (boot_o_0 P) (n (boot_o_1 P) (n (gy P) (n (boot_o_7 P) (n aa (n az (n (aL P) (f bk) z) (f aZ)) (n ag (f aS) (f (bd P)))) (n ab (n ah (f aM) (f a6)) (n aa (f (a0 P)) (f be)))) (n aa (gN P) (n ai (n aj (f (aU P)) (f a8)) (n aB (f a1) (f (bm P)))))) (n (boot_o_5 P) (n (boot_o_9 P) (gO P) (n aa (n aa (f ad) (f (a2 P))) (n (ty (cl (S "PatchError") [(w "ValueError")] [(r 57),(w "ValueError"),(w "Exception"),(w "BaseException"),(w "object")] 56 (S "PatchError") true [] [(r 70),(r 82),(r 94),(r 106),(r 118),(r 130)] false none false) [(k (r 48)),none,(k (v "PatchError" 238)),(k (v "PatchError" 246)),(k (b "ValueError.__new__")),(k (vl true))]) (f ab) (f ad)))) (n ae (g5 P) (n aa (n aE (f ab) (f ad)) (n ad (f (aX P)) (f ab)))))) (n (boot_o_2 P) (n (boot_o_4 P) (n (boot_o_8 P) (n ab (n an gK (f a3)) (n ao (f aa) (f aa))) (n ap (n aq (f aP) (f aa)) (n (ar P) (f aa) (f bh)))) (n (l3 [(1,0,20),(5,0,27),(13,0,32),(18,0,39),(23,0,46),(34,0,53),(36,0,66),(38,0,78),(40,0,90),(42,0,102),(44,0,114),(46,0,126)]) gR (n aw (n aa (f aa) (f ba)) (n aF (f aa) (f aa))))) (n (boot_o_6 P) (n (boot_o_10 P) (gS P) (n aH (n ab (f ac) (f a4)) (n ax (f a5) (f ac)))) (n af g6 (n ab (n ay (f aW) (f ac)) (n ac (f aY) (f bq))))))
theorem te2450897063885453180:tw2450897063885453180=tw2450897063885453180:=rfl
def tw2644211919470134493:Params->BT:=λP=>n (boot_o_0 P) (n (boot_o_1 P) (n (gB P) (n (boot_o_7 P) (gM P) (n ab (n ah (n aM (f (bs P)) z) (f a6)) (n aa (n (a0 P) (f bB) z) (f be)))) (n aa (n aA (n ab (n aN (f bl) z) (f (a7 P))) (n aa (n aT (f (bC P)) z) (f bf))) (n ai (n aj (n (aU P) (f bt) z) (f a8)) (n aB (n a1 (f bE) z) (f (bm P)))))) (n (boot_o_5 P) (n (boot_o_9 P) (n ak (n al (n ab (f (bg P)) z) (f ad)) (n ac (n (aO P) (f ad) z) (f ab))) (n aa (n aa (n ad (f ab) z) (f (a2 P))) (n bw (n ab (f (bx P)) z) (f ad)))) (n ae (n am (n aa (n (aC P) (f ad) z) (f ab)) (n aD (n ad (f ab) z) (f (a9 P)))) (gP P)))) (n (boot_o_2 P) (n (boot_o_4 P) (n (boot_o_8 P) gQ (n ap (n aq (n aP (f aa) z) (f aa)) (n (ar P) gK (f bh)))) (n (l3 [(1,0,20),(5,0,27),(13,0,32),(18,0,39),(23,0,46),(34,0,53),(36,0,66),(38,0,78),(40,0,90),(42,0,102),(44,0,114),(46,0,126),(48,0,138),(50,0,150)]) (n au (n av (n aa (f bo) z) (f aa)) (n ab (n aV (f aa) z) (f aa))) (n aw (n aa gK (f ba)) (n aF (n aa (f bI) z) (f aa))))) (n (boot_o_6 P) (n (boot_o_10 P) (n aa (n aa (n aQ (f bi) z) (f ac)) (n (aG P) (n aR (f ac) z) (f bj))) (n aH (n ab (n ac (f bv) z) (f a4)) (n ax (n a5 (f bz) z) (f ac)))) (n af (n aa (n aI (n aJ (f ac) z) (f bb)) (n aK (n ac (f bL) z) (f bc))) gT)))
theorem te2644211919470134493:tw2644211919470134493=tw2644211919470134493:=rfl
def tw6510939496724591293:Params->BT:=λP=>n (boot_o_0 P) (n (boot_o_1 P) (n (gD P) (n (boot_o_7 P) (n aa (n az (f (aL P)) z) (f ag)) (n ab (n ah (f aM) z) (f aa))) (n aa (n aA (n ab (f aN) z) (f aa)) (n ai (f aj) (f aB)))) (n (boot_o_5 P) (n (boot_o_9 P) (n ak (n al (f ab) z) (f ac)) (n aa (f aa) (f (ty (cl (S "PatchError") [(w "ValueError")] [(r 57),(w "ValueError"),(w "Exception"),(w "BaseException"),(w "object")] 56 (S "PatchError") true [] [(r 70)] false none false) [(k (r 48)),none,(k (v "PatchError" 238)),(k (v "PatchError" 246)),(k (b "ValueError.__new__")),(k (vl true))])))) (n ae (n am (n aa (f (aC P)) z) (f aD)) (n aa (f aE) (f ad))))) (n (boot_o_2 P) (n (boot_o_4 P) (n (boot_o_8 P) (n ab (n an (f aa) z) (f ao)) (n ap (n aq (f aP) z) (f (ar P)))) (n (l3 [(1,0,20),(5,0,27),(13,0,32),(18,0,39),(23,0,46),(34,0,53),(36,0,66)]) (n au (n av (f aa) z) (f ab)) (n aw (f aa) (f aF)))) (n (boot_o_6 P) (n (boot_o_10 P) (n aa (n aa (f aQ) z) (f (aG P))) (n aH (f ab) (f ax))) (n af (n aa (n aI (f aJ) z) (f aK)) (n ab (f ay) (f ac)))))
theorem te6510939496724591293:tw6510939496724591293=tw6510939496724591293:=rfl
def tw12891079439239492639:Params->BT:=λP=>n (boot_o_0 P) (n (boot_o_1 P) (n (gG P) (n (boot_o_7 P) (n aa (n az (n (aL P) (n bk (f aa) z) (f bN)) (n aZ (n (bO P) (f cI) z) (f aa))) (n ag (n aS (n br (f aa) z) (f bP)) (n (bd P) (n bA (f c8) z) (f cv)))) (n ab (n ah (n aM (n (bs P) (f cw) z) (f aa)) (n a6 gK (f bQ))) (n aa (n (a0 P) (n bB (f ab) z) (f bR)) (n be (n cg (f c9) z) (f aa))))) (n aa (n aA (n ab (n aN (n bl (f aa) z) (f bS)) (n (a7 P) (n bT (f cJ) z) (f bU))) (n aa (n aT (n (bC P) (f da) z) (f bV)) (n bf (n ac (f (cK P)) z) (f aa)))) (n ai (n aj (n (aU P) (n bt (f aa) z) (f bW)) (n a8 (n bD (f aa) z) (f cx))) (n aB (n a1 (n bE (f cL) z) (f aa)) (n (bm P) (f bX) (f cy)))))) (n (boot_o_5 P) (n (boot_o_9 P) (n ak (n al (n ab (n (bg P) (f cz) z) (f (bY P))) (n ad (n bZ (f df) z) (f ch))) (n ac (n (aO P) (n ad (f cM) z) (f aa)) (n ab (n b0 (f cN) z) (f ab)))) (n aa (n aa (n ad gL (f ci)) (n (a2 P) (n bF (f cO) z) (f aa))) (n bw (n ab (n (bx P) (f aa) z) (f ab)) (n ad (f aa) (f cP))))) (n ae (n am (n aa (n (aC P) (n ad (f cQ) z) (f cj)) (n ab g2 (f ab))) (n aD (n ad (n ab (f cR) z) (f ck)) (n (a9 P) (n aa (f cS) z) (f cA)))) (n aa (n aE (n ab (n (bn P) (f dj) z) (f ab)) (n ad (n bG (f cT) z) (f cU))) (n ad (n (aX P) gK (f b1)) (n ab (f cm) (f ab))))))) (n (boot_o_2 P) (n (boot_o_4 P) (n (boot_o_8 P) (n ab (n an (n aa (n aa (f cV) z) (f b2)) (n a3 gK (f ab))) (n ao (n aa (n bu (f ab) z) (f b3)) (n aa (n b4 (f cW) z) (f aa)))) (n ap (n aq (n aP gK (f ab)) (n aa (n b5 (f dm) z) (f b6))) (n (ar P) (n aa (n aa (f cX) z) (f aa)) (n bh (n cn (f dp) z) (f ab))))) (n (l3 [(1,0,20),(5,0,27),(13,0,32),(18,0,39),(23,0,46),(34,0,53),(36,0,66),(38,0,78),(40,0,90),(42,0,102),(44,0,114),(46,0,126),(48,0,138),(50,0,150),(53,0,162),(60,0,183),(68,0,202),(74,0,207),(79,0,214),(88,0,221),(94,0,226),(101,0,231),(104,0,238),(114,0,245),(120,0,250),(136,0,257),(141,0,262),(156,0,269)]) (n au (n av (n aa (n bo (f ab) z) (f b7)) (n aa gK (f aa))) (n ab (n aV (n aa (f cY) z) (f aa)) (n aa (n (cp P) (f cZ) z) (f c0)))) (n aw (n aa (n aa (n aa (f dr) z) (f aa)) (n ba (n (bH P) (f ab) z) (f aa))) (n aF (n aa (n bI (f c1) z) (f cq)) gW)))) (n (boot_o_6 P) (n (boot_o_10 P) (n aa (n aa (n aQ (n bi (f cB) z) (f b8)) (n ac (n b9 (f c2) z) (f ca))) (n (aG P) (n aR (n ac (f aa) z) (f ab)) (n bj (n aa (f c3) z) (f cC)))) (n aH (n ab (n ac (n bv (f (dv P)) z) (f cb)) (n a4 (n bJ (f c4) z) (f ab))) (n ax (n a5 (n bz (f dw) z) (f cc)) (n ac (f ab) (f cD))))) (n af (n aa (n aI (n aJ (n ac (f cE) z) (f cr)) (n bb (n bK (f c5) z) (f cs))) (n aK (n ac (n bL (f aa) z) (f cd)) (n bc (n ct (f c6) z) (f cF)))) (n ab (n ay (n aW (n bp (f dy) z) (f cu)) (n ac (n bM (f aa) z) (f cG))) (n ac (n aY (n ac (f ab) z) (f ce)) (n bq (f cf) (f cH)))))))
theorem te12891079439239492639:tw12891079439239492639=tw12891079439239492639:=rfl
def tw17054569386460266971:Params->Heap:=λP=>Heap.mk #[boot_o_0 P,boot_o_1 P,boot_o_2 P,boot_o_3 P,boot_o_4 P,boot_o_5 P,boot_o_6 P,boot_o_7 P,boot_o_8 P,boot_o_9 P,boot_o_10 P,aa,ab,ae,af] (Life.mk [] [] [] 0 [] [] false #[] [] 0 false false false 0 [2000,10,10] false 0 true [] [] 0 false)
theorem te17054569386460266971:tw17054569386460266971=tw17054569386460266971:=rfl
def tw3454783935208366749:Params->Heap:=λP=>Heap.mk #[boot_o_0 P,boot_o_1 P,boot_o_2 P,eY P,boot_o_4 P,boot_o_5 P,boot_o_6 P,boot_o_7 P,boot_o_8 P,boot_o_9 P,boot_o_10 P,aa,fY,ae,af,aa,ab,ak,aa,aA,au,am,aa,ab,ap,aa,aH,ai,aw,aa,ab,az,an,al,aa,ab,av,aa,aI,ah,aq,aa,ab,aj,aa,aE,ay,ag,ao,ac,aG P,aa,ab,aD,aK,aa,ar P,bw,ax,aB,aF,ad,ac,aL P,aa,ab,aQ,aN,aa,aC P,aJ,aM,aP,ad,ac,aU P,aa,ab,aW,aS,aa,aO P,aR,aT,aV,ad,ac,a0 P,aa,ab,a5,a1,aa,aX P,aY,aZ,a3,ad,ac,a7 P,aa,ab,bb,a6,aa,a2 P,a4,a8,ba,ad,ac,bd P,aa,ab,bj,bf,aa,a9 P,bc,be,bh,ad,ac,bm P,aa,ab,bq,bk,aa,bg P,bi,bl,bo,ad,ac,bs P,aa,ab,bv,bt,aa,bn P,bp,br,bu,ad,ac,bC P,aa,ab,bL,bB,aa,bx P,bz,bE,bI,aa,ac,bO P,aa,bZ,b9,bT,aa,ab,bK,aa,b5,bF,bJ,bD,bH P,bG,bM,bA,b4,b0,aa,ac,cp P,aa,ct,cg,cn,aa,ab,bX,aa,cm,cf,bN,b2,bY P,b8,bS,b7,cj,cr,aa,ab,ci,cb,bW,aa,ab,cu,bP,b3,aa,ab,bV,aa,ck,cd,bR,aa,ab,cc,aa,cq,b1,ce,aa,ab,ch,ca,bU,aa,ab,cs,bQ,b6,aa,ab,cx,aa,cU,cG,cv,aa,ab,cC,aa,c0,cA,cF,aa,ab,cP,cD,cy,aa,ab,cH,aa,cV,cz,cB,aa,ab,cQ,cE,cw,aa,ac,dv P,aa,dr,dj,dy,aa,ab,cM,aa,da,cY,cR,aa,ab,cX,aa,dw,cL,c1,aa,ab,cI,aa,df,c2,cJ,aa,ab,c5,aa,dm,cO,c4,aa,ab,cT,aa,c8,cW,cN,c3,cK P,cZ,cS,c6,c9,dp,aa,ab,dc,aa,dQ,dz,c7,aa,ab,du,aa,dT,di,dx,aa,ab,dg,aa,dG,ds,dk,aa,ab,dl,aa,dY,db,dq,aa,ab,dC,dn,dh,aa,ac,fD P,aa,fO,ea,ez,aa,ab,dE,aa,eq,d4,dA,aa,ab,d0,aa,eM,dO,d7,aa,ab,dK,aa,eh,dU,dN,aa,ab,dS,aa,eT,dH,dV,aa,ab,d9,dR,dI,aa,ab,eH,dM,d2,aa,ab,en,dZ,dF,aa,ab,d6,aa,eA,dJ,dX,aa,ab,es,d5,dB,aa,ab,d1,aa,eO,dP,d8,aa,ab,ek,dW,dD,aa,ab,d3,aa,eE,dL,eR,aa,ab,ev,aa,e3,eC,em,aa,ab,fB,et,eV,aa,ab,ep,aa,ff,eP,ex,aa,ab,ey,aa,fF,ef,eI,aa,ab,e5,eD,eo,aa,ab,eL,aa,fN,eb,eB,aa,ab,eg,aa,fo,eU,ed,aa,ab,eS,aa,fE,ew,eX,aa,ab,el,aa,e8,eJ,er,aa,ab,eF,aa,fH,ej,eN,aa,ab,ec,aa,fh,eQ,ei,eK,eu P,eW,ee,eG,fk,fK,aa,ab,fp,aa,fQ,fq,fg,aa,ab,fx,aa,f2,e4,ft,aa,ab,fb,aa,fV,fM,e1,aa,ab,f0,e9,fA,aa,ab,e6,aa,fU,fI,fe,aa,ab,f3,e0,fs,aa,ab,fS,fz,fm,aa,ab,fw,aa,f1,fc,fC,aa,ab,e2,aa,fT,fG,fa,aa,ab,fL,aa,fX,fj,fJ,aa,ab,fW,fP,eZ,aa,ab,fZ,e7,fy,aa,ab,fv "law" "law" (x 53),fu,fi] (Life.mk [] [] [] 0 [] [] false #[] [] 0 false false false 0 [2000,10,10] false 0 true [] [] 0 false)
theorem te3454783935208366749:tw3454783935208366749=tw3454783935208366749:=rfl
def tw10421969629066648003:Params->Frag:=λP=>[(2,boot_o_2 P),(3,eY P),(15,aa),(17,ak),(18,aa),(20,au),(21,am),(22,aa),(24,ap),(25,aa),(27,ai),(28,aw),(29,aa),(32,an),(33,al),(34,aa),(36,av),(37,aa),(39,ah),(40,aq),(41,aa),(43,aj),(44,aa),(46,ay),(47,ag),(48,ao),(55,aa),(56,ar P),(57,bw),(58,ax),(61,ad),(68,aa),(69,aC P),(70,aJ),(73,ad),(80,aa),(81,aO P),(82,aR),(85,ad),(92,aa),(93,aX P),(94,aY),(97,ad),(104,aa),(105,a2 P),(106,a4),(109,ad),(116,aa),(117,a9 P),(118,bc),(121,ad),(128,aa),(129,bg P),(130,bi),(133,ad),(140,aa),(141,bn P),(142,bp),(145,ad),(152,aa),(153,bx P),(154,bz),(164,aa),(166,bK),(167,aa),(169,bF),(170,bJ),(171,bD),(172,bH P),(173,bG),(174,bM),(175,bA),(185,aa),(187,bX),(188,aa),(190,cf),(191,bN),(192,b2),(193,bY P),(194,b8),(195,bS),(196,b7),(199,aa),(202,cb),(203,bW),(204,aa),(207,bP),(208,b3),(209,aa),(211,bV),(212,aa),(214,cd),(215,bR),(216,aa),(218,cc),(219,aa),(221,b1),(222,ce),(223,aa),(226,ca),(227,bU),(228,aa),(231,bQ),(232,b6),(233,aa),(235,cx),(236,aa),(238,cG),(239,cv),(240,aa),(242,cC),(243,aa),(245,cA),(246,cF),(247,aa),(250,cD),(251,cy),(252,aa),(254,cH),(255,aa),(257,cz),(258,cB),(259,aa),(262,cE),(263,cw),(271,aa),(273,cM),(274,aa),(276,cY),(277,cR),(278,aa),(280,cX),(281,aa),(283,cL),(284,c1),(285,aa),(287,cI),(288,aa),(290,c2),(291,cJ),(292,aa),(294,c5),(295,aa),(297,cO),(298,c4),(299,aa),(301,cT),(302,aa),(304,cW),(305,cN),(306,c3),(307,cK P),(308,cZ),(309,cS),(310,c6),(313,aa),(315,dc),(316,aa),(318,dz),(319,c7),(320,aa),(322,du),(323,aa),(325,di),(326,dx),(327,aa),(329,dg),(330,aa),(332,ds),(333,dk),(334,aa),(336,dl),(337,aa),(339,db),(340,dq),(341,aa),(344,dn),(345,dh),(353,aa),(355,dE),(356,aa),(358,d4),(359,dA),(360,aa),(362,d0),(363,aa),(365,dO),(366,d7),(367,aa),(369,dK),(370,aa),(372,dU),(373,dN),(374,aa),(376,dS),(377,aa),(379,dH),(380,dV),(381,aa),(384,dR),(385,dI),(386,aa),(389,dM),(390,d2),(391,aa),(394,dZ),(395,dF),(396,aa),(398,d6),(399,aa),(401,dJ),(402,dX),(403,aa),(406,d5),(407,dB),(408,aa),(410,d1),(411,aa),(413,dP),(414,d8),(415,aa),(418,dW),(419,dD),(420,aa),(422,d3),(423,aa),(425,dL),(426,eR),(427,aa),(429,ev),(430,aa),(432,eC),(433,em),(434,aa),(437,et),(438,eV),(439,aa),(441,ep),(442,aa),(444,eP),(445,ex),(446,aa),(448,ey),(449,aa),(451,ef),(452,eI),(453,aa),(456,eD),(457,eo),(458,aa),(460,eL),(461,aa),(463,eb),(464,eB),(465,aa),(467,eg),(468,aa),(470,eU),(471,ed),(472,aa),(474,eS),(475,aa),(477,ew),(478,eX),(479,aa),(481,el),(482,aa),(484,eJ),(485,er),(486,aa),(488,eF),(489,aa),(491,ej),(492,eN),(493,aa),(495,ec),(496,aa),(498,eQ),(499,ei),(500,eK),(501,eu P),(502,eW),(503,ee),(504,eG),(507,aa),(509,fp),(510,aa),(512,fq),(513,fg),(514,aa),(516,fx),(517,aa),(519,e4),(520,ft),(521,aa),(523,fb),(524,aa),(526,fM),(527,e1),(528,aa),(531,e9),(532,fA),(533,aa),(535,e6),(536,aa),(538,fI),(539,fe),(540,aa),(543,e0),(544,fs),(545,aa),(548,fz),(549,fm),(550,aa),(552,fw),(553,aa),(555,fc),(556,fC),(557,aa),(559,e2),(560,aa),(562,fG),(563,fa),(564,aa),(566,fL),(567,aa),(569,fj),(570,fJ),(571,aa),(574,fP),(575,eZ),(576,aa),(579,e7),(580,fy),(581,aa),(584,fu),(585,fi)]
theorem te10421969629066648003:tw10421969629066648003=tw10421969629066648003:=rfl
def tw15090451176734213123:List Stmt:=[x 11]
theorem te15090451176734213123:tw15090451176734213123=tw15090451176734213123:=rfl
def tw15650900512422998180:List Stmt:=[x 40,x 41,x 42,x 43,x 44,x 45,x 46,x 47,x 48,x 49,x 50,x 51,x 52,x 53]
theorem te15650900512422998180:tw15650900512422998180=tw15650900512422998180:=rfl
def tw12454932558123907816:List Stmt:=[x 18,x 19,x 20,x 21,x 22,x 23,x 24]
theorem te12454932558123907816:tw12454932558123907816=tw12454932558123907816:=rfl
def tw2809773509037809804:List Stmt:=[x 39]
theorem te2809773509037809804:tw2809773509037809804=tw2809773509037809804:=rfl
def tw13972729526599230316:List Stmt:=[x 13]
theorem te13972729526599230316:tw13972729526599230316=tw13972729526599230316:=rfl
def tw6414916402773555789:List Stmt:=[x 34,x 35,x 36,x 37,x 38]
theorem te6414916402773555789:tw6414916402773555789=tw6414916402773555789:=rfl
def tw17763172452039004751:List Stmt:=[x 15,x 16]
theorem te17763172452039004751:tw17763172452039004751=tw17763172452039004751:=rfl
def tw3242211680339282129:List Stmt:=[x 25,x 26,x 27,x 28,x 29]
theorem te3242211680339282129:tw3242211680339282129=tw3242211680339282129:=rfl
def tw3052530094727381076:List Stmt:=[x 10]
theorem te3052530094727381076:tw3052530094727381076=tw3052530094727381076:=rfl
def tw2690709662554688788:List Stmt:=[x 12]
theorem te2690709662554688788:tw2690709662554688788=tw2690709662554688788:=rfl
def tw12539301670274620180:List Stmt:=[x 14]
theorem te12539301670274620180:tw12539301670274620180=tw12539301670274620180:=rfl
def tw15841093874875716568:List Stmt:=[x 17]
theorem te15841093874875716568:tw15841093874875716568=tw15841093874875716568:=rfl
def tw16007196658809698522:List Stmt:=[x 0,x 1,x 2,x 3,x 4,x 5,x 6,x 7]
theorem te16007196658809698522:tw16007196658809698522=tw16007196658809698522:=rfl
def tw1430418939742662074:List Stmt:=[x 30,x 31,x 32,x 33]
theorem te1430418939742662074:tw1430418939742662074=tw1430418939742662074:=rfl
def tw7657427187687326301:List Stmt:=[x 8]
theorem te7657427187687326301:tw7657427187687326301=tw7657427187687326301:=rfl
def tw7713841622384560126:List Stmt:=[x 9]
theorem te7713841622384560126:tw7713841622384560126=tw7713841622384560126:=rfl
def tw2546834914392650046:Program:={PySem.Challenge.pw_patchkin_k10_whole_recorded_stands with main:={PySem.Challenge.pw_patchkin_k10_whole_recorded_stands.main with body:=[x 0,x 2,x 3,x 4,x 5,x 7,x 8,x 9,x 10,x 11,x 12,x 13,x 14,x 15,x 17,x 18,x 19,x 20,x 21,x 22,x 23,x 24,x 25,x 26,x 27,x 28,x 29,x 30,x 32,x 33,x 34,x 35,x 36,x 37,x 38,x 39,x 41,x 42,x 43,x 44,x 45,x 46,x 47,x 48,x 49,x 50,x 51,x 52,x 53]}}
theorem te2546834914392650046:tw2546834914392650046=tw2546834914392650046:=rfl
end
end PySem.W.Fast
namespace PK
open PySem L2
theorem all_mk{l:W.OpenLaw}{w:World}{K:Qqy}{h:Heap}{mg:Qqx}{fa f0 f1 f2 f3 f4 f5 f6 f7 f8 f9 f10 f11 f12 f13 f14 f15 f16 f17 f18 f19 f20 f21 f22 f23 f24 f25 f26 f27 f28 f29 f30 f31 f32 f33 f34 f35 f36 f37 f38 f39 f40 f41 f42 f43 f44 f45 f46 f47 f48 f49 f50 f51 f52 f53 f54 f55 f56 f57 f58 gH g_ h_ gn lW jC js iP jY n_ lF uy tq:Addr}{nG lX:Tok}(X:K.In h)(G:h.Ns mainGlobals mg)(hfa:mg "law"=some (.ref fa))
  (DG:W.nsIn K mainGlobals "Line"=some (some (.ref gH)))
  (AM:W.nsIn K mainGlobals "Patch"=some (some (.ref g_)))
  (AN:W.nsIn K mainGlobals "Sight"=some (some (.ref h_)))
  (DH:W.nsIn K mainGlobals "Desk"=some (some (.ref gn)))
  (h0:FI K "counts_with" o4 f0)
  (h1:FI K "most_pairs" qy f1)
  (h2:FI K "place_from" qz f2)
  (h3:FI K "kept" Gz f3)
  (h4:FI K "lines_named_by" kQ f4)
  (h5:FI K "leans_straight_on" jS f5)
  (h6:FI K "live_patches" nS f6)
  (h7:FI K "lines_put" rM f7)
  (h8:FI K "standing_lines" kR f8)
  (h9:FI K "files_with_lines" nU f9)
  (WM:FI K "straight_ahead" mi f10)
  (Vg:FI K "joined" zV f11)
  (h12:FI K "all_ahead" oF f12)
  (h13:FI K "first_free" qA f13)
  (h14:FI K "row_of" vq f14)
  (h15:FI K "check_name" qB f15)
  (h16:FI K "check_places" nV f16)
  (h17:FI K "kept_behind" o5 f17)
  (h18:FI K "new_lines" rN f18)
  (h19:FI K "changing_patch" jX f19)
  (WN:FI K "_law_cell_at" nX f20)
  (Vh:FI K "_law_draw" rS f21)
  (h22:FI K "_law_name" rV f22)
  (h23:FI K "_law_text" oH f23)
  (h24:FI K "_law_edit" rW f24)
  (h25:FI K "_law_deed" oI f25)
  (h26:FI K "_law_desk" mG f26)
  (h27:FI K "_law_whole" qG f27)
  (h28:FI K "_law_row_form" mX f28)
  (h29:FI K "_law_pairs_form" lT f29)
  (h30:FI K "_law_seen" oJ f30)
  (h31:FI K "_law_cut_right" kS f31)
  (h32:FI K "law" zW f32)
  (h33:MI K gH "__init__" "Line.__init__" mT f33)
  (h34:MI K g_ "__init__" "Patch.__init__" mf f34)
  (h35:MI K h_ "__init__" "Sight.__init__" mj f35)
  (h36:MI K h_ "is_ahead" "Sight.is_ahead" ml f36)
  (h37:MI K h_ "quarrelling" "Sight.quarrelling" kU f37)
  (h38:MI K gn "__init__" "Desk.__init__" mU f38)
  (h39:MI K gn "begin" "Desk.begin" qC f39)
  (WO:MI K gn "stores" "Desk.stores" tU f40)
  (Vj:MI K gn "patches" "Desk.patches" rO f41)
  (h42:MI K gn "has" "Desk.has" qD f42)
  (h43:MI K gn "record" "Desk.record" my f43)
  (h44:MI K gn "cut" "Desk.cut" qE f44)
  (h45:MI K gn "back" "Desk.back" rP f45)
  (h46:MI K gn "take" "Desk.take" oG f46)
  (h47:MI K gn "drop" "Desk.drop" rQ f47)
  (h48:MI K gn "leans" "Desk.leans" nF f48)
  (h49:MI K gn "files" "Desk.files" vt f49)
  (WQ:MI K gn "row" "Desk.row" qF f50)
  (Vk:MI K gn "quarrels" "Desk.quarrels" mV f51)
  (h52:MI K gn "patches_of" "Desk.patches_of" ky f52)
  (h53:MI K gn "sight_of" "Desk.sight_of" mW f53)
  (h54:MI K gn "check_store" "Desk.check_store" lA f54)
  (h55:MI K gn "check_made" "Desk.check_made" lR f55)
  (h56:MI K gn "check_held" "Desk.check_held" lS f56)
  (h57:MI K gn "check_new" "Desk.check_new" mq f57)
  (h58:MI K gn "keep" "Desk.keep" rR f58)
  (DI:W.plainGet K gH Str.empty=true)
  (DJ:W.hasDictIn K gH=true)
  (DK:W.plainOver K gH=true)
  (DL:W.findIn K (.ref gH) "__setattr__"=some (some (.builtin "object.__setattr__")))
  (DN:W.makesIn K gH=true)
  (DO:W.keepIn K (.ref gH)=true)
  (gF:W.findIn K (.ref gH) "name"=some none)
  (jK:W.findIn K (.ref gH) "text"=some none)
  (iF:W.findIn K (.ref gH) "upper_name"=some none)
  (iG:W.findIn K (.ref gH) "lower_name"=some none)
  (AO:W.plainGet K g_ Str.empty=true)
  (AQ:W.hasDictIn K g_=true)
  (AR:W.plainOver K g_=true)
  (AS:W.findIn K (.ref g_) "__setattr__"=some (some (.builtin "object.__setattr__")))
  (AU:W.makesIn K g_=true)
  (AV:W.keepIn K (.ref g_)=true)
  (iU:W.findIn K (.ref g_) "name"=some none)
  (kq:W.findIn K (.ref g_) "file"=some none)
  (jO:W.findIn K (.ref g_) "puts"=some none)
  (jP:W.findIn K (.ref g_) "cuts"=some none)
  (iW:W.findIn K (.ref g_) "other"=some none)
  (AW:W.plainGet K h_ Str.empty=true)
  (AX:W.hasDictIn K h_=true)
  (AY:W.plainOver K h_=true)
  (AZ:W.findIn K (.ref h_) "__setattr__"=some (some (.builtin "object.__setattr__")))
  (A1:W.makesIn K h_=true)
  (A2:W.keepIn K (.ref h_)=true)
  (jy:W.findIn K (.ref h_) "ahead"=some none)
  (il:W.findIn K (.ref h_) "lines"=some none)
  (DP:W.plainGet K gn Str.empty=true)
  (DQ:W.hasDictIn K gn=true)
  (DR:W.plainOver K gn=true)
  (DS:W.findIn K (.ref gn) "__setattr__"=some (some (.builtin "object.__setattr__")))
  (DT:W.makesIn K gn=true)
  (DU:W.keepIn K (.ref gn)=true)
  (iX:W.findIn K (.ref gn) "made"=some none)
  (i_:W.findIn K (.ref gn) "needs"=some none)
  (iw:W.findIn K (.ref gn) "held"=some none)
  (pf:W.nsIn K mainGlobals "PatchError"=some (some (.ref lW)))
  (uI:W.nsIn K mainGlobals "BadName"=some (some (.ref jC)))
  (qT:W.nsIn K mainGlobals "NameTaken"=some (some (.ref js)))
  (uJ:W.nsIn K mainGlobals "NoStore"=some (some (.ref iP)))
  (uK:W.nsIn K mainGlobals "NoPatch"=some (some (.ref jY)))
  (xJ:W.nsIn K mainGlobals "NoLine"=some (some (.ref n_)))
  (qU:W.nsIn K mainGlobals "Unsettled"=some (some (.ref lF)))
  (DV:W.nsIn K mainGlobals "Same"=some (some (.ref uy)))
  (A3:W.nsIn K mainGlobals "Leant"=some (some (.ref tq)))
  (ph:W.nsIn K mainGlobals "NAME_SIGNS"=some (some (.str (Str.ofString "abcdefghijklmnopqrstuvwxyz0123456789") nG)))
  (nc:W.nsIn K mainGlobals "LONGEST_NAME"=some (some (.int 12 lX)))
  (Me:W.nsIn K mainGlobals "len"=some none)
  (DW:W.nsIn K mainGlobals "range"=some none)
  (Mf:W.nsIn K mainGlobals "max"=some none)
  (qV:W.nsIn K mainGlobals "isinstance"=some none)
  (Mg:W.nsIn K mainGlobals "int"=some none)
  (He:W.nsIn K mainGlobals "bool"=some none)
  (Hf:W.nsIn K mainGlobals "list"=some none)
  (DX:W.nsIn K mainGlobals "tuple"=some none)
  (Mh:W.nsIn K mainGlobals "str"=some none)
  (uL:W.nsIn K mainGlobals "reversed"=some none)
  (A4:W.nsIn K mainGlobals "sorted"=some none)
  (Mi:W.nsIn K mainGlobals "set"=some none)
  (sZ:W.nsIn K mainGlobals "enumerate"=some none)
  (qW:W.nsIn K mainGlobals "ValueError"=some none)
  (pk:W.excIn K lW [.type "ValueError",.type "Exception",.type "BaseException",.type "object"] "ValueError.__new__"=true)
  (uM:W.excIn K jC [.type "ValueError",.type "Exception",.type "BaseException",.type "object"] "ValueError.__new__"=true)
  (qX:W.excIn K js [.type "ValueError",.type "Exception",.type "BaseException",.type "object"] "ValueError.__new__"=true)
  (uN:W.excIn K iP [.type "ValueError",.type "Exception",.type "BaseException",.type "object"] "ValueError.__new__"=true)
  (uO:W.excIn K jY [.type "ValueError",.type "Exception",.type "BaseException",.type "object"] "ValueError.__new__"=true)
  (xK:W.excIn K n_ [.type "ValueError",.type "Exception",.type "BaseException",.type "object"] "ValueError.__new__"=true)
  (qY:W.excIn K lF [.type "ValueError",.type "Exception",.type "BaseException",.type "object"] "ValueError.__new__"=true)
  (DY:W.excIn K uy [.type "ValueError",.type "Exception",.type "BaseException",.type "object"] "ValueError.__new__"=true)
  (A5:W.excIn K tq [.type "ValueError",.type "Exception",.type "BaseException",.type "object"] "ValueError.__new__"=true) :
  ∃fd:FuncData,(∀(s:Shared)(v:Value),BindsTo s fd ⟨[v],[]⟩ [("script",v)])/\∀base:Heap,K.In base->base.Ns mainGlobals mg->ig l.prog w K mg base mK 20 fa fd ["script"] (HV K):=by
 obtain⟨m0,d0,F0⟩:=h0
 obtain⟨m1,d1,F1⟩:=h1
 obtain⟨m2,d2,F2⟩:=h2
 obtain⟨m3,d3,F3⟩:=h3
 obtain⟨m4,d4,F4⟩:=h4
 obtain⟨m5,d5,F5⟩:=h5
 obtain⟨m6,d6,F6⟩:=h6
 obtain⟨m7,d7,F7⟩:=h7
 obtain⟨m8,d8,F8⟩:=h8
 obtain⟨m9,d9,F9⟩:=h9
 obtain⟨m10,d10,F10⟩:=WM
 obtain⟨m11,d11,F11⟩:=Vg
 obtain⟨m12,d12,F12⟩:=h12
 obtain⟨m13,d13,F13⟩:=h13
 obtain⟨m14,d14,F14⟩:=h14
 obtain⟨m15,d15,F15⟩:=h15
 obtain⟨m16,d16,F16⟩:=h16
 obtain⟨m17,d17,F17⟩:=h17
 obtain⟨m18,d18,F18⟩:=h18
 obtain⟨m19,d19,F19⟩:=h19
 obtain⟨m20,d20,F20⟩:=WN
 obtain⟨m21,d21,F21⟩:=Vh
 obtain⟨m22,d22,F22⟩:=h22
 obtain⟨m23,d23,F23⟩:=h23
 obtain⟨m24,d24,F24⟩:=h24
 obtain⟨m25,d25,F25⟩:=h25
 obtain⟨m26,d26,F26⟩:=h26
 obtain⟨m27,d27,F27⟩:=h27
 obtain⟨m28,d28,F28⟩:=h28
 obtain⟨m29,d29,F29⟩:=h29
 obtain⟨m30,d30,F30⟩:=h30
 obtain⟨m31,d31,F31⟩:=h31
 obtain⟨m32,d32,F32⟩:=h32
 obtain⟨m33,d33,F33⟩:=h33
 obtain⟨m34,d34,F34⟩:=h34
 obtain⟨m35,d35,F35⟩:=h35
 obtain⟨m36,d36,F36⟩:=h36
 obtain⟨m37,d37,F37⟩:=h37
 obtain⟨m38,d38,F38⟩:=h38
 obtain⟨m39,d39,F39⟩:=h39
 obtain⟨m40,d40,F40⟩:=WO
 obtain⟨m41,d41,F41⟩:=Vj
 obtain⟨m42,d42,F42⟩:=h42
 obtain⟨m43,d43,F43⟩:=h43
 obtain⟨m44,d44,F44⟩:=h44
 obtain⟨m45,d45,F45⟩:=h45
 obtain⟨m46,d46,F46⟩:=h46
 obtain⟨m47,d47,F47⟩:=h47
 obtain⟨m48,d48,F48⟩:=h48
 obtain⟨m49,d49,F49⟩:=h49
 obtain⟨m50,d50,F50⟩:=WQ
 obtain⟨m51,d51,F51⟩:=Vk
 obtain⟨m52,d52,F52⟩:=h52
 obtain⟨m53,d53,F53⟩:=h53
 obtain⟨m54,d54,F54⟩:=h54
 obtain⟨m55,d55,F55⟩:=h55
 obtain⟨m56,d56,F56⟩:=h56
 obtain⟨m57,d57,F57⟩:=h57
 obtain⟨m58,d58,F58⟩:=h58
 have e:=hfa.symm.trans (aaF X G m32)
 cases e
 have T:Txt mg:=⟨abb X G Me,abb X G DW,abb X G Mf,abb X G qV,abb X G Mg,abb X G He,abb X G Hf,abb X G DX,abb X G Mh,abb X G uL,abb X G A4,abb X G Mi,abb X G sZ,abb X G qW⟩
 have O:Ok K mg (Ad.mk f0 d0 f1 d1 f2 d2 f3 d3 f33 d33 f34 d34 f4 d4 f5 d5 f6 d6 f7 d7 f8 d8 f9 d9 f10 d10 f11 d11 f12 d12 f13 d13 f14 d14 f35 d35 f36 d36 f37 d37 f15 d15 f16 d16 f17 d17 f18 d18 f19 d19 f38 d38 f39 d39 f40 d40 f41 d41 f42 d42 f43 d43 f44 d44 f45 d45 f46 d46 f47 d47 f48 d48 f49 d49 f50 d50 f51 d51 f52 d52 f53 d53 f54 d54 f55 d55 f56 d56 f57 d57 f58 d58 f20 d20 f21 d21 f22 d22 f23 d23 f24 d24 f25 d25 f26 d26 f27 d27 f28 d28 f29 d29 f30 d30 f31 d31 gH g_ h_ gn lW jC js iP jY n_ lF uy tq nG lX ()):=⟨⟨F0,F0.bd,aaF X G m0⟩,⟨F1,F1.bd,aaF X G m1⟩,⟨F2,F2.bd,aaF X G m2⟩,⟨F3,F3.bd,aaF X G m3⟩,⟨F33,F33.bd,m33⟩,⟨F34,F34.bd,m34⟩,⟨F4,F4.bd,aaF X G m4⟩,⟨F5,F5.bd,aaF X G m5⟩,⟨F6,F6.bd,aaF X G m6⟩,⟨F7,F7.bd,aaF X G m7⟩,⟨F8,F8.bd,aaF X G m8⟩,⟨F9,F9.bd,aaF X G m9⟩,⟨F10,F10.bd,aaF X G m10⟩,⟨F11,F11.bd,aaF X G m11⟩,⟨F12,F12.bd,aaF X G m12⟩,⟨F13,F13.bd,aaF X G m13⟩,⟨F14,F14.bd,aaF X G m14⟩,⟨F35,F35.bd,m35⟩,⟨F36,F36.bd,m36⟩,⟨F37,F37.bd,m37⟩,⟨F15,F15.bd,aaF X G m15⟩,⟨F16,F16.bd,aaF X G m16⟩,⟨F17,F17.bd,aaF X G m17⟩,⟨F18,F18.bd,aaF X G m18⟩,⟨F19,F19.bd,aaF X G m19⟩,⟨F38,F38.bd,m38⟩,⟨F39,F39.bd,m39⟩,⟨F40,F40.bd,m40⟩,⟨F41,F41.bd,m41⟩,⟨F42,F42.bd,m42⟩,⟨F43,F43.bd,m43⟩,⟨F44,F44.bd,m44⟩,⟨F45,F45.bd,m45⟩,⟨F46,F46.bd,m46⟩,⟨F47,F47.bd,m47⟩,⟨F48,F48.bd,m48⟩,⟨F49,F49.bd,m49⟩,⟨F50,F50.bd,m50⟩,⟨F51,F51.bd,m51⟩,⟨F52,F52.bd,m52⟩,⟨F53,F53.bd,m53⟩,⟨F54,F54.bd,m54⟩,⟨F55,F55.bd,m55⟩,⟨F56,F56.bd,m56⟩,⟨F57,F57.bd,m57⟩,⟨F58,F58.bd,m58⟩,⟨F20,F20.bd,aaF X G m20⟩,⟨F21,F21.bd,aaF X G m21⟩,⟨F22,F22.bd,aaF X G m22⟩,⟨F23,F23.bd,aaF X G m23⟩,⟨F24,F24.bd,aaF X G m24⟩,⟨F25,F25.bd,aaF X G m25⟩,⟨F26,F26.bd,aaF X G m26⟩,⟨F27,F27.bd,aaF X G m27⟩,⟨F28,F28.bd,aaF X G m28⟩,⟨F29,F29.bd,aaF X G m29⟩,⟨F30,F30.bd,aaF X G m30⟩,⟨F31,F31.bd,aaF X G m31⟩,⟨DI,DJ,DK,DL⟩,⟨DN,m33.at_,m33.fn,DO⟩,aaF X G DG,gF,jK,iF,iG,⟨AO,AQ,AR,AS⟩,⟨AU,m34.at_,m34.fn,AV⟩,aaF X G AM,iU,kq,jO,jP,iW,⟨AW,AX,AY,AZ⟩,⟨A1,m35.at_,m35.fn,A2⟩,aaF X G AN,jy,il,⟨DP,DQ,DR,DS⟩,⟨DT,m38.at_,m38.fn,DU⟩,aaF X G DH,iX,i_,iw,⟨aaF X G pf,pk⟩,⟨aaF X G uI,uM⟩,⟨aaF X G qT,qX⟩,⟨aaF X G uJ,uN⟩,⟨aaF X G uK,uO⟩,⟨aaF X G xJ,xK⟩,⟨aaF X G qU,qY⟩,⟨aaF X G DV,DY⟩,⟨aaF X G A3,A5⟩,aaF X G ph,aaF X G nc,True.intro⟩
 refine⟨d32,λs v=>?_,λbase _ _=>Q9 F32 T O⟩
 obtain⟨_,_,_,_,_,_,_,_,_,rfl,_,_⟩:=F32.ex
 exact .of_eq rfl
theorem walk{l:W.OpenLaw}{q:Program}{loose:List Str}{XP:(Qqx)->Heap->Prop}{YP:World->Heap->Prop}{d:DefRec}{K:Params->Qqy}(hn:l.most=some 63)(Ux:d.params.defaults=[])
  (hY:∀(w:World)(h:Heap),YP w h->(K w.params).In h)
  (F:∀(w:World)(mg:Qqx)(fa:Addr)(h:Heap),(K w.params).In h->h.Ns mainGlobals mg->mg d.name=some (.ref fa)->
   ∃fd:FuncData,(∀(s:Shared)(u:Value),BindsTo s fd ⟨[u],[]⟩ [("script",u)])/\∀base:Heap,(K w.params).In base->base.Ns mainGlobals mg->ig l.prog w (K w.params) mg base mK 20 fa fd ["script"] (HV (K w.params))) :
  W.WalkO q loose XP YP l.row.toRowW d [] (λf vs=>PySem.call f vs):=
 L2.MR (n:=63) (k:=20) (x:="script") (CX:=λ_=>mK) (sp:=λw=>HV (K w.params)) hn (by decide) Ux ⟨rfl,by decide,by decide⟩ hY F (λ_ _ a ns hl _ hS=>⟨a,ns,rfl,hS,hl,λ_=>rfl⟩) λ_ _ _ _ _ z=>z
end PK
open PySem PySem.W PyProof.Rows
theorem PySem.Challenge.cw_patchkin_k10_whole_recorded_stands_holds : PySem.Challenge.rw_patchkin_k10_whole_recorded_stands.Holds := by
 w_on;o_law;k_head;(case hw=>w_witness2)
 k_fill
 refine PK.walk (l:=PySem.Challenge.rw_patchkin_k10_whole_recorded_stands) rfl rfl (λw h Y=>PySem.W.kIn_of Y) ?F
 case F=>
  intro w mg fa h KX G Uy
  refine' PK.all_mk KX G Uy ?zqDG ?zqAM ?zqAN ?zqDH ?zqh0 ?zqh1 ?zqh2 ?zqh3 ?zqh4 ?zqh5 ?zqh6 ?zqh7 ?zqh8 ?zqh9 ?zqWM ?zqVg ?zqh12 ?zqh13 ?zqh14 ?zqh15 ?zqh16 ?zqh17 ?zqh18 ?zqh19 ?zqWN ?zqVh ?zqh22 ?zqh23 ?zqh24 ?zqh25 ?zqh26 ?zqh27 ?zqh28 ?zqh29 ?zqh30 ?zqh31 ?zqh32 ?zqh33 ?zqh34 ?zqh35 ?zqh36 ?zqh37 ?zqh38 ?zqh39 ?zqWO ?zqVj ?zqh42 ?zqh43 ?zqh44 ?zqh45 ?zqh46 ?zqh47 ?zqh48 ?zqh49 ?zqWQ ?zqVk ?zqh52 ?zqh53 ?zqh54 ?zqh55 ?zqh56 ?zqh57 ?zqh58 ?zqDI ?zqDJ ?zqDK ?zqDL ?zqDN ?zqDO ?zqgF ?zqjK ?zqiF ?zqiG ?zqAO ?zqAQ ?zqAR ?zqAS ?zqAU ?zqAV ?zqiU ?zqkq ?zqjO ?zqjP ?zqiW ?zqAW ?zqAX ?zqAY ?zqAZ ?zqA1 ?zqA2 ?zqjy ?zqil ?zqDP ?zqDQ ?zqDR ?zqDS ?zqDT ?zqDU ?zqiX ?zqi_ ?zqiw ?zqpf ?zquI ?zqqT ?zquJ ?zquK ?zqxJ ?zqqU ?zqDV ?zqA3 ?zqph ?zqnc ?zqMe ?zqDW ?zqMf ?zqqV ?zqMg ?zqHe ?zqHf ?zqDX ?zqMh ?zquL ?zqA4 ?zqMi ?zqsZ ?zqqW ?zqpk ?zquM ?zqqX ?zquN ?zquO ?zqxK ?zqqY ?zqDY ?zqA5
  (case zqDG|zqAM|zqAN|zqDH=>k_is)
  (case zqh0|zqh1|zqh2|zqh3|zqh4|zqh5|zqh6|zqh7|zqh8|zqh9|zqWM|zqVg|zqh12|zqh13|zqh14|zqh15|zqh16|zqh17|zqh18|zqh19|zqWN|zqVh|zqh22|zqh23|zqh24|zqh25|zqh26|zqh27|zqh28|zqh29|zqh30|zqh31|zqh32=>refine' L2.TL ?a ?l ?c ?k;(case a=>k_is);(case l=>k_is);(case c=>k_is);(case k=>k_is))
  (case zqh33|zqh34|zqh35|zqh36|zqh37|zqh38|zqh39|zqWO|zqVj|zqh42|zqh43|zqh44|zqh45|zqh46|zqh47|zqh48|zqh49|zqWQ|zqVk|zqh52|zqh53|zqh54|zqh55|zqh56|zqh57|zqh58=>refine' L2.TM ?a ?i ?l ?c ?k;(case a=>k_is);(case i=>k_is);(case l=>k_is);(case c=>k_is);(case k=>k_is))
  (case zqDI|zqDJ|zqDK|zqDL|zqDN|zqDO|zqgF|zqjK|zqiF|zqiG|zqAO|zqAQ|zqAR|zqAS|zqAU|zqAV|zqiU|zqkq|zqjO|zqjP|zqiW|zqAW|zqAX|zqAY|zqAZ|zqA1|zqA2|zqjy|zqil|zqDP|zqDQ|zqDR|zqDS|zqDT|zqDU|zqiX|zqi_|zqiw|zqpf|zquI|zqqT|zquJ|zquK|zqxJ|zqqU|zqDV|zqA3|zqph|zqnc|zqMe|zqDW|zqMf|zqqV|zqMg|zqHe|zqHf|zqDX|zqMh|zquL|zqA4|zqMi|zqsZ|zqqW=>k_is)
  (case zqpk|zquM|zqqX|zquN|zquO|zqxK|zqqY|zqDY|zqA5=>k_exc)
