import PyProof.Rows.All
import Wide.All
import OpenK.AllK
import Wide.FinOn
import Lean
import PyProof.EqAt
import PyProof.EqKinds
import PyProof.TupleCall
import PyProof.NeKinds
import PyProof.SliceStr2
import KE.KDictList
import PyProof.CollectIter
import PyProof.EnumFor
import PyProof.EnumMake
import PyProof.LayNew
import PySem.Str
import PyProof.Rows.RegStrFacts
import PyProof.StrLawsRepr
import PySem.Challenge.RW_patchkin_k15_no_such_store
set_option Elab.async false
set_option linter.all false
set_option maxRecDepth 100000
set_option maxHeartbeats 0
theorem RF:type_of% @List.length_map:=@List.length_map
theorem RL:type_of% @List.getElem?_eq_some_iff:=@List.getElem?_eq_some_iff
theorem UP:type_of% @List.mem_singleton:=@List.mem_singleton
theorem UR:type_of% @List.getElem?_eq_getElem:=@List.getElem?_eq_getElem
theorem UU:type_of% @Nat.le_refl:=@Nat.le_refl
theorem UW:type_of% @decide_eq_true:=@decide_eq_true
theorem VI:type_of% @List.mem_of_getElem?:=@List.mem_of_getElem?
theorem VO:type_of% @List.length_append:=@List.length_append
theorem XT:type_of% @List.length_cons:=@List.length_cons
theorem XU:type_of% @List.mem_cons:=@List.mem_cons
theorem XW:type_of% @List.filter_cons_of_pos:=@List.filter_cons_of_pos
theorem XX:type_of% @decide_eq_false:=@decide_eq_false
theorem aaa:type_of% @List.mem_append:=@List.mem_append
theorem aab:type_of% @List.mem_map_of_mem:=@List.mem_map_of_mem
theorem aac:type_of% @Nat.le_trans:=@Nat.le_trans
theorem aad:type_of% @Bool.false_ne_true:=@Bool.false_ne_true
theorem aae:type_of% @List.size_toArray:=@List.size_toArray
theorem aaf:type_of% @List.filter_cons_of_neg:=@List.filter_cons_of_neg
theorem aag:type_of% @List.mem_cons_of_mem:=@List.mem_cons_of_mem
theorem aah:type_of% @List.getElem?_map:=@List.getElem?_map
theorem aai:type_of% @PySem.W.mg_of:=@PySem.W.mg_of
theorem aaj:type_of% @List.take_length:=@List.take_length
theorem aak:type_of% @if_neg:=@if_neg
theorem aal:type_of% @List.mem_append_left:=@List.mem_append_left
theorem aam:type_of% @List.map_append:=@List.map_append
theorem aan:type_of% @List.mem_cons_self:=@List.mem_cons_self
theorem aao:type_of% @List.map_cons:=@List.map_cons
theorem aap:type_of% @if_pos:=@if_pos
theorem aaq:type_of% @List.mem_filter:=@List.mem_filter
theorem aar:type_of% @of_decide_eq_true:=@of_decide_eq_true
theorem aas:type_of% @PySem.boot_len:=@PySem.boot_len
theorem aat:type_of% @Option.some.inj:=@Option.some.inj
theorem aau:type_of% @List.length_take:=@List.length_take
theorem aav:type_of% @PySem.sizeLine_eq:=@PySem.sizeLine_eq
theorem aaw:type_of% @Nat.lt_of_lt_of_le:=@Nat.lt_of_lt_of_le
theorem aax:type_of% @List.Sublist.refl:=@List.Sublist.refl
theorem aay:type_of% @List.flatMap_cons:=@List.flatMap_cons
theorem aaz:type_of% @List.mem_map:=@List.mem_map
theorem aaA:type_of% @Option.map_eq_some_iff:=@Option.map_eq_some_iff
theorem aaB:type_of% @List.append_nil:=@List.append_nil
theorem aaC:type_of% @List.mem_append_right:=@List.mem_append_right
theorem aaD:type_of% @Nat.zero_le:=@Nat.zero_le
theorem aaE:type_of% @List.length_eq_zero_iff:=@List.length_eq_zero_iff
theorem aaF:type_of% @List.filter_append:=@List.filter_append
theorem aaG:type_of% @PySem.F.plainAttrs_list:=@PySem.F.plainAttrs_list
theorem aaH:type_of% @List.length_filter_le:=@List.length_filter_le
theorem aaI:type_of% @List.mem_iff_getElem?:=@List.mem_iff_getElem?
theorem aaJ:type_of% @PyProof.Rows.boot_isinstance:=@PyProof.Rows.boot_isinstance
theorem aaK:type_of% @List.append_assoc:=@List.append_assoc
theorem aaL:type_of% @List.drop_eq_getElem_cons:=@List.drop_eq_getElem_cons
theorem aaM:type_of% @Nat.ne_of_lt:=@Nat.ne_of_lt
theorem aaN:type_of% @List.filter_sublist:=@List.filter_sublist
theorem aaO:type_of% @Array.getElem?_eq_getElem:=@Array.getElem?_eq_getElem
theorem aaP:type_of% @PyProof.Rows.callWith_type1:=@PyProof.Rows.callWith_type1
theorem aaQ:type_of% @List.nodup_cons:=@List.nodup_cons
theorem aaR:type_of% @List.filter_nil:=@List.filter_nil
theorem aaS:type_of% @PySem.F.slot_list_append:=@PySem.F.slot_list_append
theorem aaT:type_of% @PySem.F.type_list_append:=@PySem.F.type_list_append
theorem aaU:type_of% @List.nodup_append:=@List.nodup_append
theorem aaV:type_of% @Bool.false_eq_true:=@Bool.false_eq_true
theorem aaW:type_of% @List.sublist_append_right:=@List.sublist_append_right
theorem aaX:type_of% @Bool.and_eq_true:=@Bool.and_eq_true
theorem aaY:type_of% @Array.getElem?_toList:=@Array.getElem?_toList
theorem aaZ:type_of% @List.getElem?_set_self:=@List.getElem?_set_self
theorem aa0:type_of% @PySem.W.mg_none_of:=@PySem.W.mg_none_of
theorem aa1:type_of% @Array.length_toList:=@Array.length_toList
theorem aa2:type_of% @List.replicate_succ:=@List.replicate_succ
theorem aa3:type_of% @List.mem_flatMap:=@List.mem_flatMap
theorem aa4:type_of% @List.getElem?_append_right:=@List.getElem?_append_right
theorem aa5:type_of% @List.getElem?_set_ne:=@List.getElem?_set_ne
theorem aa6:type_of% @List.nodup_nil:=@List.nodup_nil
theorem aa7:type_of% @List.length_reverse:=@List.length_reverse
theorem aa8:type_of% @Nat.lt_irrefl:=@Nat.lt_irrefl
theorem aa9:type_of% @Nat.lt_of_le_of_lt:=@Nat.lt_of_le_of_lt
theorem aa_:type_of% @List.sublist_cons_self:=@List.sublist_cons_self
theorem aba:type_of% @List.filterMap_cons:=@List.filterMap_cons
theorem abb:type_of% @PySem.mem_of_lookup:=@PySem.mem_of_lookup
theorem abc:type_of% @Bool.eq_false_iff:=@Bool.eq_false_iff
theorem abd:type_of% @List.getElem?_eq_none_iff:=@List.getElem?_eq_none_iff
theorem abe:type_of% @Bool.eq_iff_iff:=@Bool.eq_iff_iff
theorem abf:type_of% @List.take_append_drop:=@List.take_append_drop
theorem abg:type_of% @List.all_eq_true:=@List.all_eq_true
theorem abh:type_of% @List.flatMap_nil:=@List.flatMap_nil
theorem abi:type_of% @PySem.F.plainAttrs_dict:=@PySem.F.plainAttrs_dict
theorem abj:type_of% @List.take_zero:=@List.take_zero
theorem abk:type_of% @List.flatMap_append:=@List.flatMap_append
theorem abl:type_of% @List.not_mem_nil:=@List.not_mem_nil
theorem abm:type_of% @List.getElem?_take:=@List.getElem?_take
theorem abn:type_of% @List.filterMap_append:=@List.filterMap_append
theorem abo:type_of% @List.getElem?_append_left:=@List.getElem?_append_left
theorem abp:type_of% @List.pairwise_iff_getElem:=@List.pairwise_iff_getElem
theorem abq:type_of% @Int.toNat_natCast:=@Int.toNat_natCast
theorem abr:type_of% @List.flatten_cons:=@List.flatten_cons
theorem abt:type_of% @PySem.F.slot_dict_update:=@PySem.F.slot_dict_update
theorem abu:type_of% @List.getElem?_inj:=@List.getElem?_inj
theorem abv:type_of% @List.map_congr_left:=@List.map_congr_left
theorem abw:type_of% @List.lookup_cons:=@List.lookup_cons
theorem abx:type_of% @PyProof.Rows.boot_list:=@PyProof.Rows.boot_list
theorem aby:type_of% @List.mem_filterMap:=@List.mem_filterMap
theorem abz:type_of% @PySem.W.callWith_K:=@PySem.W.callWith_K
theorem abA:type_of% @List.getElem?_drop:=@List.getElem?_drop
theorem abB:type_of% @List.Nodup.sublist:=@List.Nodup.sublist
theorem abC:type_of% @List.find?_cons:=@List.find?_cons
theorem abD:type_of% @Option.map_some:=@Option.map_some
theorem abE:type_of% @PySem.F.slot_dict_pop:=@PySem.F.slot_dict_pop
theorem abF:type_of% @List.range_succ:=@List.range_succ
theorem abG:type_of% @List.take_sublist:=@List.take_sublist
theorem abH:type_of% @List.length_range:=@List.length_range
theorem abI:type_of% @List.mem_range:=@List.mem_range
theorem abJ:type_of% @Nat.lt_succ_self:=@Nat.lt_succ_self
theorem abK:type_of% @List.range'_succ:=@List.range'_succ
theorem abL:type_of% @List.drop_length:=@List.drop_length
theorem abM:type_of% @List.length_set:=@List.length_set
theorem abN:type_of% @Bool.or_eq_true:=@Bool.or_eq_true
namespace L2
open PySem PySem.Spec PyProof.Rows
abbrev Key:=Sum Int Str
def yD:Key→Value→Bool
 | .inl k,v=>Value.isInt k v
 | .inr x,v=>Value.isStrOf x v
def Ub(w:World):Key→Int
 | .inl k=>hashInt k
 | .inr x=>hashStr w x
theorem jm:∀{k:Key} {v:Value},yD k v=true→(∃i t,k=Sum.inl i∧v=Value.int i t)∨(∃x t,k=Sum.inr x∧v=Value.str x t)
 | .inl i,v,h=>by
   obtain⟨t,e⟩:=Value.isInt_shape (k:=i) (v:=v) h
   exact .inl ⟨i,t,rfl,e⟩
 | .inr x,v,h=>by
   obtain⟨t,e⟩:=Value.isStrOf_shape (x:=x) (v:=v) h
   exact .inr ⟨x,t,rfl,e⟩
theorem GZ(i:Int)(t:Tok):yD (.inl i) (.int i t)=true:=by simp[yD,Value.isInt]
theorem G0(x:Str)(t:Tok):yD (.inr x) (.str x t)=true:=by simp[yD,Value.isStrOf]
theorem MY(a b:Int):decide ((Sum.inl a:Key)=Sum.inl b)=(a ==b):=by
 by_cases e:a=b
 · subst e;simp
 · have h:¬(Sum.inl a:Key)=Sum.inl b:=fun q=>e (Sum.inl.inj q)
   rw[XX h]
   exact(beq_eq_false_iff_ne.mpr e).symm
theorem MZ(a b:Str):decide ((Sum.inr a:Key)=Sum.inr b)=decide (a=b):=by
 by_cases e:a=b
 · subst e;simp
 · have h:¬(Sum.inr a:Key)=Sum.inr b:=fun q=>e (Sum.inr.inj q)
   rw[XX h,XX e]
theorem M0(a:Int)(b:Str):decide ((Sum.inl a:Key)=Sum.inr b)=false:=XX (fun q=>nomatch q)
theorem M3(a:Str)(b:Int):decide ((Sum.inr a:Key)=Sum.inl b)=false:=XX (fun q=>nomatch q)
def i6(prog:Program)(w:World):PySem.KeyKind prog w Key where
 is:=yD
 hash:=Ub w
 inj:=fun v a b ha hb=>by
   rcases jm ha with⟨i,t,rfl,rfl⟩|⟨x,t,rfl,rfl⟩
   · rcases jm hb with⟨j,u,rfl,e⟩|⟨y,u,rfl,e⟩
     · injection e with e1 _;rw[e1]
     · exact nomatch e
   · rcases jm hb with⟨j,u,rfl,e⟩|⟨y,u,rfl,e⟩
     · exact nomatch e
     · injection e with e1 _;rw[e1]
 byValue:=fun k v h=>by
   rcases jm h with⟨i,t,rfl,rfl⟩|⟨x,t,rfl,rfl⟩<;>rfl
 pyHash:=fun hv h=>by
   rcases jm hv with⟨i,t,rfl,rfl⟩|⟨x,t,rfl,rfl⟩
   · exact wpAny_pyHash_int h
   · exact wpAny_pyHash_str h
 eqBool:=fun hu hv h=>by
   rcases jm hu with⟨i,t,rfl,rfl⟩|⟨x,t,rfl,rfl⟩
   · rcases jm hv with⟨j,u,rfl,rfl⟩|⟨y,u,rfl,rfl⟩
     · rw[MY] at h;exact wpAny_eqBool_int h
     · rw[M0] at h;exact SeqAt.EqAt.int_str i t y u _ _ _ _ h
   · rcases jm hv with⟨j,u,rfl,rfl⟩|⟨y,u,rfl,rfl⟩
     · rw[M3] at h;exact SeqAt.EqAt.str_int x t j u _ _ _ _ h
     · rw[MZ] at h;exact wpAny_eqBool_str h
 «strs»:=fun k x t v h=>by
   rcases jm h with⟨i,u,rfl,e⟩|⟨y,u,rfl,e⟩
   · exact nomatch e
   · injection e with e1 _
     subst e1
     cases v<;>rfl
theorem Dd(prog:Program)(w:World)(i:Int)(t:Tok):(i6 prog w).is (.inl i) (.int i t)=true:=GZ i t
theorem De(prog:Program)(w:World)(x:Str)(t:Tok):(i6 prog w).is (.inr x) (.str x t)=true:=G0 x t
inductive V where
 | jv|bl (b:Bool)|int (i:Int)|str (x:Str)|ES (b:Array UInt8)|PZ (b:UInt64)|ref (a:Addr)|ty (n:String)
 deriving DecidableEq
def RelV:V→Value→Prop
 | .jv,u=>u=Value.none
 | .bl b,u=>u=Value.bool b
 | .int i,u=>∃t,u=Value.int i t
 | .str x,u=>∃t,u=Value.str x t
 | .ES b,u=>∃t,u=Value.bytes b t
 | .PZ b,u=>∃t,u=Value.float b t
 | .ref a,u=>u=Value.ref a
 | .ty n,u=>u=Value.type n
abbrev Vals:List V→List Value→Prop:=Paired RelV
theorem Vals.length{xs:List V}{us:List Value}(r:Vals xs us):xs.length=us.length:=Paired.length r
theorem Vals.get:∀{xs:List V} {us:List Value} {i:Nat} {x:V},Vals xs us→xs[i]?=some x→∃u,us[i]?=some u∧RelV x u
 | _,_,_,_,.nil,e=>by simp at e
 | _,_,0,_,.cons r _,e=>by simp at e;subst e;exact⟨_,rfl,r⟩
 | _,_,i+1,x,.cons _ t,e=>by
   obtain⟨u,h1,h2⟩:=Vals.get (i:=i) (x:=x) t (by simpa using e)
   exact⟨u,by simpa using h1,h2⟩
theorem Vals.set{x:V}{u:Value}(r:RelV x u):∀{xs:List V} {us:List Value} (i:Nat),Vals xs us→Vals (xs.set i x) (us.set i u)
 | _,_,_,.nil=>.nil
 | _,_,0,.cons _ t=>.cons r t
 | _,_,i+1,.cons q t=>.cons q (Vals.set r i t)
theorem Vals.append:∀{xs ys:List V} {us ws:List Value},Vals xs us→Vals ys ws→Vals (xs++ys) (us++ws)
 | _,_,_,_,.nil,s=>s
 | _,_,_,_,.cons r t,s=>.cons r (Vals.append t s)
theorem Vals.take:∀{xs:List V} {us:List Value} (n:Nat),Vals xs us→Vals (xs.take n) (us.take n)
 | _,_,0,_=>.nil
 | _,_,_+1,.nil=>.nil
 | _,_,n+1,.cons r t=>.cons r (Vals.take n t)
theorem Vals.drop:∀{xs:List V} {us:List Value} (n:Nat),Vals xs us→Vals (xs.drop n) (us.drop n)
 | _,_,0,r=>r
 | _,_,_+1,.nil=>.nil
 | _,_,n+1,.cons _ t=>Vals.drop n t
def o5:Option V→Option Value→Prop
 | some v,some u=>RelV v u
 | none,none=>True
 | _,_=>False
def KV{κ:Type}:List (κ×V)→List (κ×Value)→Prop:=Paired fun(p:κ×V) (q:κ×Value)=>p.1=q.1∧RelV p.2 q.2
def kV:Key→V
 | .inl i=>.int i
 | .inr x=>.str x
inductive HO where
 | lst (xs:List V)
 | tup (xs:List V)
 | dK (kvs:List (Key×V))|dT (kvs:List (List Key×V))
 | set (S:Int→Bool) (n:Nat)
 | ins (C dx:Addr) (fs:List (Str×V))
 | own (x:Addr)
 | xd (fs:List (Str×V))
 | met (f x:Addr)
 | SU (lo hi:Int)
 | nQ (o:Obj) (u:HO)
 | Kz (ps:Array Value)
 | ext (φ:Heap→Prop)
abbrev Hp:=Addr→Option HO
def upd(H:Hp)(a:Addr)(o:HO):Hp:=fun b=>if b=a then some o else H b
theorem b_{H:Hp}{a:Addr}{o:HO}:upd H a o a=some o:=by unfold upd;rw[aap rfl]
theorem de{H:Hp}{a b:Addr}{o:HO}(h:b≠a):upd H a o b=H b:=by unfold upd;rw[aak h]
theorem KL{H:Hp}{a:Addr}{o u:HO}:upd (upd H a o) a u=upd H a u:=by
 funext b;unfold upd;split<;>rfl
theorem i0{H:Hp}{a b:Addr}{o u:HO}(h:H a=some o)(h':H b=some u)(d:o≠u):a≠b:=by
 intro e;subst e;rw[h] at h';exact d (aat h')
theorem gg{H:Hp}{a b:Addr}{o:HO}(h:H a=some o)(h':H b=none):a≠b:=by
 intro e;subst e;rw[h] at h';cases h'
section
variable(P:Program)(w:World)
def i9(H:Hp)(h:Heap)(a:Addr):HO→Prop
 | .lst xs=>xs.length≤sizeLine∧∃(hX:List Value)(n:Nat),Vals xs hX∧h.get? a=some {cls:=.type "list",data:=.seq hX.toArray n}
 | .tup xs=>xs.length≤sizeLine∧∃hX:List Value,Vals xs hX∧IsTup h a hX.toArray
 | .dK kvs=>kvs.length≤sizeLine∧(a ==sysModules)=false∧∃vs,KV kvs vs∧h.DictOf (i6 P w) a vs
 | .dT kvs=>kvs.length≤sizeLine∧(a ==sysModules)=false∧∃xs:List (List Key×Addr×Value),
     Paired (fun(p:List Key×V) (q:List Key×Addr×Value)=>p.1=q.1∧H q.2.1=some (.tup (p.1.map kV))∧RelV p.2 q.2.2) kvs xs∧
     ∃o es ep,h.get? a=some o∧o.ExactDict∧o.data=.dict es ep∧es.toList=xs.map (entryOfKey (tupleKind (i6 P w)))∧(xs.map (·.1)).Nodup
 | .set S n=>h.SetOf (intKind P w) a S n
 | .ins C dx fs=>H dx=some (.own a)∧fs.length≤1000∧dx≠a∧h.get? a=some (PySem.W.instObj C dx)∧
     ∃mA,h.Ns1 dx mA∧(∀f,o5 (fs.lookup f) (mA f))∧PySem.Within mA (fs.map (·.1))
 | .own _=>∃o,h.get? a=some o
 | .xd fs=>∃mA,h.Ns1 a mA∧∀f,o5 (fs.lookup f) (mA f)
 | .SU lo hi=>∃t u v,h.get? a=some {cls:=.type "range",data:=.fields #[.int lo t,.int hi u,.int 1 v]}
 | .nQ o u=>h.get? a=some o∧i9 H h a u
 | .Kz ps=>h.get? a=some {cls:=.none,data:=.fields ps}
 | .met f x=>h.get? a=some (PySem.W.methodObj (.ref f) (.ref x))
 | .ext φ=>φ h∧(∃o,h.get? a=some o)∧∀h1 h2:Heap,φ h1→(∀o,h1.get? a=some o→h2.get? a=some o)→φ h2
def pN(H:Hp)(h:Heap):Prop:=∀a o,H a=some o→i9 P w H h a o
end
section
variable{P:Program}{w:World}{H H':Hp}{h h':Heap}{a:Addr}{o:HO}
theorem i9.lt(x:i9 P w H h a o):a<h.objs.size:=by
 cases o with
 | lst xs=>obtain⟨_,_,_,_,e⟩:=x;exact Heap.lt_size e
 | tup xs=>obtain⟨_,_,_,p⟩:=x;exact p.lt
 | dK kvs=>obtain⟨_,_,_,_,o,_,_,e,_⟩:=x;exact Heap.lt_size e
 | dT kvs=>obtain⟨_,_,_,_,o,_,_,e,_⟩:=x;exact Heap.lt_size e
 | set S n=>obtain⟨o,_,_,_,e,_⟩:=x;exact Heap.lt_size e
 | ins C dx fs=>obtain⟨_,_,_,e,_⟩:=x;exact Heap.lt_size e
 | own y=>obtain⟨_,e⟩:=x;exact Heap.lt_size e
 | xd fs=>obtain⟨_,⟨_,_,_,e,_⟩,_⟩:=x;exact Heap.lt_size e
 | SU lo hi=>obtain⟨_,_,_,e⟩:=x;exact Heap.lt_size e
 | nQ ob u=>obtain⟨e,_⟩:=x;exact Heap.lt_size e
 | Kz ps=>exact Heap.lt_size (show h.get? a=some _ from x)
 | met f y=>exact Heap.lt_size (show h.get? a=some _ from x)
 | ext φ=>obtain⟨_,⟨_,e⟩,_⟩:=x;exact Heap.lt_size e
theorem Paired.kx{α β:Type}{F G:α→β→Prop}:∀{l₁:List α} {l₂:List β},Paired F l₁ l₂→(∀a b,F a b→G a b)→Paired G l₁ l₂
 | _,_,.nil,_=>.nil
 | _,_,.cons r t,f=>.cons (f _ _ r) (Paired.kx t f)
theorem i9.vL(x:i9 P w H h a o)(k:∀b u,(b=a∨H b=some (.own a))→h.get? b=some u→h'.get? b=some u)
   (ho:∀b,H b=some (.own a)→H' b=some (.own a)) (ht:∀b xs,H b=some (.tup xs)→H' b=some (.tup xs)):i9 P w H' h' a o:=by
 induction o with
 | lst xs=>obtain⟨z,hX,n,r,e⟩:=x;exact⟨z,hX,n,r,k _ _ (.inl rfl) e⟩
 | tup xs=>obtain⟨z,hX,r,ob,e,c⟩:=x;exact⟨z,hX,r,ob,k _ _ (.inl rfl) e,c⟩
 | dK kvs=>obtain⟨z,y,vs,r,ob,es,ep,e,c⟩:=x;exact⟨z,y,vs,r,ob,es,ep,k _ _ (.inl rfl) e,c⟩
 | dT kvs=>
   obtain⟨z,y,xs,r,ob,es,ep,e,c⟩:=x
   exact⟨z,y,xs,Paired.kx r fun p q z=>⟨z.1,ht _ _ z.2.1,z.2.2⟩,ob,es,ep,k _ _ (.inl rfl) e,c⟩
 | set S n=>obtain⟨ob,es,ep,t,e,c⟩:=x;exact⟨ob,es,ep,t,k _ _ (.inl rfl) e,c⟩
 | ins C dx fs=>
   obtain⟨d,z,ne,e,mA,⟨od,es,ep,e2,c⟩,r⟩:=x
   exact⟨ho _ d,z,ne,k _ _ (.inl rfl) e,mA,⟨od,es,ep,k _ _ (.inr d) e2,c⟩,r⟩
 | own y=>obtain⟨ob,e⟩:=x;exact⟨ob,k _ _ (.inl rfl) e⟩
 | xd fs=>obtain⟨mA,⟨od,es,ep,e,c⟩,r⟩:=x;exact⟨mA,⟨od,es,ep,k _ _ (.inl rfl) e,c⟩,r⟩
 | SU lo hi=>obtain⟨t,u,v,e⟩:=x;exact⟨t,u,v,k _ _ (.inl rfl) e⟩
 | nQ ob u ih=>obtain⟨e,q⟩:=x;exact⟨k _ _ (.inl rfl) e,ih q⟩
 | Kz ps=>
   have e:h.get? a=some {cls:=.none,data:=.fields ps}:=x
   show h'.get? a=some {cls:=.none,data:=.fields ps}
   exact k a _ (.inl rfl) e
 | met f y=>
   have e:h.get? a=some (PySem.W.methodObj (.ref f) (.ref y)):=x
   show h'.get? a=some (PySem.W.methodObj (.ref f) (.ref y))
   exact k a _ (.inl rfl) e
 | ext φ=>obtain⟨p,⟨o,e⟩,st⟩:=x;exact⟨st _ _ p fun o q=>k _ _ (.inl rfl) q,⟨o,k _ _ (.inl rfl) e⟩,st⟩
theorem pN.lt(x:pN P w H h)(e:H a=some o):a<h.objs.size:=(x a o e).lt
theorem pN.fresh(x:pN P w H h)(e:h.objs.size≤a):H a=none:=by
 cases q:H a with
 | none=>rfl
 | some u=>exact absurd (aaw (x.lt q) e) (aa8 _)
theorem pN.kept(x:pN P w H h)(k:∀b u,h.get? b=some u→h'.get? b=some u):pN P w H h':=fun a o e=>
 (x a o e).vL (fun b u _ q=>k b u q) (fun _ q=>q) fun _ _ q=>q
theorem pN.laid(x:pN P w H h)(k:∀b u,h.get? b=some u→h'.get? b=some u)(hp:h.objs.size≤a)(new:i9 P w (upd H a o) h' a o):pN P w (upd H a o) h':=fun b u e=>by
 have hn:=x.fresh hp
 by_cases hb:b=a
 · subst hb;rw[b_] at e;cases e;exact new
 · rw[de hb] at e
   exact(x b u e).vL (fun c v _ q=>k c v q) (fun c q=>by rw[de (gg q hn)];exact q) fun c xs q=>by rw[de (gg q hn)];exact q
end
def Rd(H:Hp)(a:Addr)(u:HO):Prop:=H a=some u∨∃o,H a=some (.nQ o u)
theorem Rd.ok{P:Program}{w:World}{H:Hp}{h:Heap}{a:Addr}{u:HO}(r:Rd H a u)(x:pN P w H h):i9 P w H h a u:=by
 rcases r with r|⟨o,r⟩
 · exact x a u r
 · obtain⟨_,q⟩:=x a _ r
   exact q
def Mg:Option HO→Prop
 | some (.lst _)=>True
 | some (.dK _)=>True
 | some (.dT _)=>True
 | some (.set _ _)=>True
 | some (.ins _ _ _)=>True
 | some (.ext _)=>True
 | _=>False
section
variable{P:Program}{w:World}{H:Hp}{h h':Heap}{x e:Addr}{o':HO}
theorem pN.write(ok:pN P w H h)(mu:Mg (H x))(he:e=x∨H e=some (.own x))(k:∀b u,b≠e→h.get? b=some u→h'.get? b=some u)(Kb:∃u,h'.get? e=some u)
   (new:i9 P w (upd H x o') h' x o'):pN P w (upd H x o') h':=fun b u q=>by
 have Q6:∀c y,H c=some (.own y)→c≠x:=fun c y r z=>by subst z;rw[r] at mu;exact mu
 have U9:∀c xs,H c=some (.tup xs)→c≠x:=fun c xs r z=>by subst z;rw[r] at mu;exact mu
 by_cases hb:b=x
 · subst hb;rw[b_] at q;cases q;exact new
 · rw[de hb] at q
   by_cases Oy:b=e
   · have q':H b=some (.own x):=by
       rcases he with z|z
       · exact absurd (Oy.trans z) hb
       · rw[Oy];exact z
     rw[q] at q';cases q'
     obtain⟨v,hv⟩:=Kb
     exact⟨v,by rw[Oy];exact hv⟩
   · refine(ok b u q).vL (fun c v hc r=>k c v ?_ r) (fun c r=>by rw[de (Q6 c b r)];exact r) fun c xs r=>by rw[de (U9 c xs r)];exact r
     rcases hc with rfl|hc
     · exact Oy
     · rintro rfl
       rcases he with z|z
       · exact Q6 c b hc z
       · rw[hc] at z;cases z;exact hb rfl
end
structure Un(fs ex:List Addr)(H H':Hp)(h h':Heap):Prop where
 keep:∀b o,h.get? b=some o→H b=none→b∉fs→b∉ex→h'.get? b=some o
 slot:∀b o,h.get? b=some o→H b=none→b∈fs→b∉ex→∃sl,h'.get? b=some {o with slots:=sl}
 free:∀b o,h.get? b=some o→H b=none→b∉ex→H' b=none
 there:∀b o,h.get? b=some o→b∉ex→∃o',h'.get? b=some o'
 oH:∀b xs,H b=some (.tup xs)→H' b=some (.tup xs)
 qQ:∀b o u,H b=some (.nQ o u)→H' b=some (.nQ o u)
 tP:∀b ps,H b=some (.Kz ps)→∃more,H' b=some (.Kz (ps++more))
section
variable{fs fs' ex ex':List Addr}{H H1 H2:Hp}{h h1 h2 h':Heap}{a x e:Addr}{o:HO}
theorem Un.any(u:Un fs ex H H1 h h1){b:Addr}{ob:Obj}(q:h.get? b=some ob)(n:H b=none)(hx:b∉ex):∃sl,h1.get? b=some {ob with slots:=sl}:=by
 by_cases hb:b∈fs
 · exact u.slot b ob q n hb hx
 · exact⟨ob.slots,u.keep b ob q n hb hx⟩
theorem Un.kept(k:∀b u,h.get? b=some u→h'.get? b=some u):Un fs ex H H h h':=
 ⟨fun b ob q _ _ _=>k b ob q,fun b ob q _ _ _=>⟨ob.slots,k b ob q⟩,fun _ _ _ n _=>n,fun b ob q _=>⟨ob,k b ob q⟩,fun _ _ q=>q,fun _ _ _ q=>q,fun _ ps q=>⟨#[],by rw[q];simp⟩⟩
theorem Un.refl:Un fs ex H H h h:=Un.kept fun _ _ q=>q
theorem Un.laid(k:∀b u,h.get? b=some u→h'.get? b=some u)(hp:h.objs.size≤a)(hn:H a=none):Un fs ex H (upd H a o) h h' where
 keep:=fun b u q _ _ _=>k b u q
 slot:=fun b u q _ _ _=>⟨u.slots,k b u q⟩
 free:=fun b u q n _=>by rw[de (aaM (aaw (Heap.lt_size q) hp))];exact n
 there:=fun b u q _=>⟨u,k b u q⟩
 oH:=fun b xs q=>by rw[de (gg q hn)];exact q
 qQ:=fun b u xs q=>by rw[de (gg q hn)];exact q
 tP:=fun b ps q=>⟨#[],by rw[de (gg q hn),q];simp⟩
theorem Un.write(mu:Mg (H x))(he:e=x∨H e=some (.own x))(k:∀b u,b≠e→h.get? b=some u→h'.get? b=some u)(Kb:∃u,h'.get? e=some u):Un fs ex H (upd H x o) h h':=by
 have hx:∀b,H b=none→b≠x:=fun b n z=>by subst z;rw[n] at mu;exact mu
 have hb:∀b,H b=none→b≠e:=fun b n z=>by
   subst z
   rcases he with r|r
   · exact hx b n r
   · rw[n] at r;cases r
 have hm:∀b u,H b=some u→¬Mg (some u)→b≠x:=fun b u q nm z=>by subst z;rw[q] at mu;exact nm mu
 refine⟨fun b u q n _ _=>k b u (hb b n) q,fun b u q n _ _=>⟨u.slots,k b u (hb b n) q⟩,fun b u q n _=>by rw[de (hx b n)];exact n,fun b u q _=>?_,
   fun b xs q=>by rw[de (hm b _ q fun z=>z)];exact q,fun b u xs q=>by rw[de (hm b _ q fun z=>z)];exact q,fun b ps q=>⟨#[],by rw[de (hm b _ q fun z=>z),q];simp⟩⟩
 by_cases Oy:b=e
 · subst Oy;exact Kb
 · exact⟨u,k b u Oy q⟩
end
def SV(h:Heap)(H:Hp):List Addr:=(List.range h.objs.size).filter fun a=>(H a).isSome
def BI(h:Heap)(H:Hp):Heap:=PySem.W.hideAll h (SV h H)
theorem G8(h:Heap)(H:Hp):(BI h H).objs.size=h.objs.size:=PySem.W.hideAll_size _ _
theorem Ip{h:Heap}{H:Hp}{b:Addr}{o:Obj}(e:h.get? b=some o)(n:H b=none):(BI h H).get? b=some o:=
 PySem.W.hideAll_get _ e fun hm=>by
   have q:(H b).isSome=true:=(aaq.mp hm).2
   rw[n] at q;simp at q
theorem KN{h:Heap}{H:Hp}{b:Addr}{o:Obj}(e:(BI h H).get? b=some o):h.get? b=some o∧H b=none:=by
 have e':h.get? b=some o:=PySem.W.of_hideAll (SV h H) e
 refine⟨e',?_⟩
 cases q:H b with
 | none=>rfl
 | some x=>
   have hm:b∈SV h H:=aaq.mpr ⟨abI.mpr (Heap.lt_size e'),by simp[q]⟩
   have z:(BI h H).get? b=none:=PySem.W.hideAll_none (SV h H) hm
   rw[z] at e;cases e
def KO(g h:Heap)(L:Addr):List (Addr×Obj):=(List.range h.objs.size).filterMap fun a=>if a=L∨(g.get? a).isSome=true then none else(h.get? a).map fun o=>(a,o)
def rest(g h:Heap)(L d:Addr):List (Addr×Obj):=(KO g h L).filter fun p=>decide (p.1≠d)
structure Mod(K:PySem.W.Frag)(mg:Str→Option Value)(base:Heap):Prop where
 KP:K.In base
 glob:base.Ns mainGlobals mg
 blt:∃mb,base.Ns builtinsNs mb∧∀x:Str,x≠"__name__"→mb x=bootBuiltins x
 nolimit:base.NoLimit
structure Cx where
 prog:Program
 w:World
 K:PySem.W.Frag
 mg:Str→Option Value
 base:Heap
 A:Around
 N:List Str
 s₀:Shared
 H₀:Hp
 env:Env
 outer:List Env
 stack:List Env
 ex:List Addr
 fn:Str→Bool
 calm:Bool
 pn:List (Addr×Obj)
 xe:Value→Shared→Prop
def qO(l:List Env):List Addr:=l.filterMap (·.frame)
abbrev Cx.fs(X:Cx):List Addr:=qO X.outer
def Uc(sc:Scope)(x:Str):Prop:=sc.names.lookup x=some .local∨sc.names.lookup x=some .cell∨sc.names.lookup x=some .free
def Loc(sc:Scope)(x:Str):Prop:=sc.names.lookup x=some .local∨sc.names.lookup x=some .cell
def Look(env:Env)(h:Heap)(m:Str→Option Value)(x:Str)(u:Value):Prop:=
 (env.kindOf x=some .local∧m x=some u)∨((env.kindOf x=some .cell∨env.kindOf x=some .free)∧∃c,env.cells.lookup x=some c∧h.IsCell c (some u))
structure Cx.Ok(X:Cx):Prop where
 mod:Mod X.K X.mg X.base
 kind:X.env.scope.kind=.function
 glob:X.env.globals=mainGlobals
 blt:X.env.builtins=builtinsNs
 above:X.s₀.heap.objs.size≤X.env.locals
 inj:∀x y c,X.env.cells.lookup x=some c→X.env.cells.lookup y=some c→x=y
 has:∀x,(X.env.kindOf x=some .cell∨X.env.kindOf x=some .free)→∃c,X.env.cells.lookup x=some c
 KQ:∀x c,X.fn x=true→X.env.cells.lookup x=some c→X.s₀.heap.objs.size≤c
 hd:X.calm=true→X.A.handled=none
 frames:X.A.frames=some X.stack
 Mh:X.stack=X.outer∨(X.stack=X.env::X.outer∧X.env.frame=some X.env.locals)
 Pb:∀b∈X.ex,b≠X.env.locals∧∀x c,X.env.cells.lookup x=some c→c≠b
 bs:∀b o,X.base.get? b=some o→X.s₀.heap.get? b=some o∧X.H₀ b=none
 G9:X.base.objs.size≤X.s₀.heap.objs.size
 pO:∀b o,X.base.get? b=some o→b∉X.ex
 Df:∀b∈X.ex,b∉X.fs
 qP:X.s₀.heap.FunFrames X.base X.outer
 Ij:∀b∈X.fs,X.H₀ b=none
structure Inv(X:Cx)(pins:List (Addr×Obj))(σ:List (Option V))(H:Hp)(s:Shared):Prop where
 ok:X.Ok
 os:s.os=X.s₀.os
 bare:AllBare s.gens
 base:Un X.fs X.ex X.H₀ H X.s₀.heap s.heap
 loc:∃m,s.heap.Ns X.env.locals m∧∀(i:Nat)(x:Str)(v:V),X.N[i]?=some x→σ[i]?=some (some v)→Uc X.env.scope x→∃u,RelV v u∧Look X.env s.heap m x u
 cell:∀x c,X.env.cells.lookup x=some c→∃v,s.heap.IsCell c v
 free:H X.env.locals=none
 k_:∀x c,X.env.cells.lookup x=some c→H c=none
 pin:∀p∈X.pn++pins,s.heap.get? p.1=some p.2∧H p.1=none∧p.1≠X.env.locals∧p.1∉X.fs∧∀v,p.2.data≠.cell v
 iG:pN X.prog X.w H s.heap
 len:σ.length=X.N.length
section
variable{X:Cx}{pins:List (Addr×Obj)}{σ:List (Option V)}{H H':Hp}{s:Shared}{h':Heap}
theorem Cx.Ok.KR(ok:X.Ok){b:Addr}{o:Obj}(e:X.base.get? b=some o):b∉X.fs:=fun hb=>by
 have:=(ok.qP.mem hb).1
 rw[e] at this;cases this
theorem Inv.bs(I:Inv X pins σ H s):∀b o,X.base.get? b=some o→s.heap.get? b=some o∧H b=none:=fun b o e=>
 ⟨I.base.keep b o (I.ok.bs b o e).1 (I.ok.bs b o e).2 (I.ok.KR e) (I.ok.pO b o e),I.base.free b o (I.ok.bs b o e).1 (I.ok.bs b o e).2 (I.ok.pO b o e)⟩
theorem Inv.bk(I:Inv X pins σ H s):∀b o,X.base.get? b=some o→s.heap.get? b=some o:=fun b o e=>(I.bs b o e).1
theorem Inv.mod(I:Inv X pins σ H s):Mod X.K X.mg X.base:=I.ok.mod
theorem Inv.Az(I:Inv X pins σ H s):X.K.In s.heap:=I.ok.mod.KP.keeps I.bk
theorem Inv.lt(I:Inv X pins σ H s):X.env.locals<s.heap.objs.size:=let ⟨_,hn,_⟩:=I.loc;hn.lt
theorem Inv.sz(I:Inv X pins σ H s):X.s₀.heap.objs.size≤s.heap.objs.size:=aac I.ok.above (Nat.le_of_lt I.lt)
theorem Inv.P0(I:Inv X pins σ H s){a:Addr}(h:s.heap.objs.size≤a):a∉X.fs:=fun hb=>by
 obtain⟨_,o,ho,_⟩:=I.ok.qP.mem hb
 exact absurd (aaw (Heap.lt_size ho) (aac I.sz h)) (aa8 _)
theorem Inv.KS(I:Inv X pins σ H s):∀x c,X.env.cells.lookup x=some c→c≠X.env.locals:=fun x c e z=>by
 obtain⟨v,o,ho,hd⟩:=I.cell x c e
 obtain⟨m,⟨o',es,ep,nX,U_,_⟩,_⟩:=I.loc
 rw[z,nX] at ho;cases ho;rw[U_] at hd;cases hd
theorem Inv.qP(I:Inv X pins σ H s):s.heap.FunFrames X.base X.outer:=by
 have all:∀(l:List Env),(∀b∈qO l,b∈X.fs)→X.s₀.heap.FunFrames X.base l→s.heap.FunFrames X.base l:=by
   intro l
   induction l with
   | nil=>intro _ _;trivial
   | cons env r ih=>
     intro hs hl
     obtain⟨hk,⟨L,o,hf,hn,ho,hd⟩,hr⟩:=hl
     have hL:L∈X.fs:=hs L (by unfold qO;rw[aba,hf];exact aan)
     obtain⟨sl,e⟩:=I.base.slot L o ho (I.ok.Ij L hL) hL fun z=>I.ok.Df L z hL
     exact⟨hk,⟨L,_,hf,hn,e,hd⟩,ih (fun b hb=>hs b (by unfold qO;rw[aba,hf];exact aag _ hb)) hr⟩
 exact all X.outer (fun _ hb=>hb) I.ok.qP
theorem Inv.stack(I:Inv X pins σ H s):s.heap.FunFrames X.base X.stack:=by
 rcases I.ok.Mh with e|⟨e,hf⟩
 · rw[e];exact I.qP
 · rw[e]
   obtain⟨m,hn,_⟩:=I.loc
   refine .cons (by rw[I.ok.kind];decide) hf hn ?_ I.qP
   exact Heap.get?_none_of_le (aac I.ok.G9 I.ok.above)
theorem Inv.vM(I:Inv X pins σ H s):∀b∈qO X.stack,b∈X.env.locals::X.fs:=fun b hb=>by
 rcases I.ok.Mh with e|⟨e,hf⟩
 · rw[e] at hb;exact aag _ hb
 · rw[e] at hb
   unfold qO at hb
   rw[aba,hf] at hb
   exact hb
theorem Inv.yp(I:Inv X pins σ H s):∀b∈qO X.stack,H b=none:=fun b hb=>by
 rcases XU.mp (I.vM b hb) with e|hb
 · rw[e];exact I.free
 · obtain⟨_,o,ho,_⟩:=I.ok.qP.mem hb
   exact I.base.free b o ho (I.ok.Ij b hb) fun z=>I.ok.Df b z hb
theorem Inv.step{g':Array GenState}{t':Nat}{d':Drawn}{ch:List Addr}(I:Inv X pins σ H s)
   (KA:∀b∈ch,(b∈X.ex∨X.s₀.heap.objs.size≤b)∧b≠X.env.locals∧(∀x c,X.env.cells.lookup x=some c→c≠b)∧∀p∈X.pn++pins,p.1≠b)
   (keep:∀b o,b≠X.env.locals→b∉X.fs→b∉ch→s.heap.get? b=some o→H b=none→h'.get? b=some o)
   (slot:∀b o,b≠X.env.locals→b∈X.fs→b∉ch→s.heap.get? b=some o→H b=none→∃sl,h'.get? b=some {o with slots:=sl}) (free:∀b o,b∉ch→s.heap.get? b=some o→H b=none→H' b=none)
   (there:∀b o,b∉ch→s.heap.get? b=some o→∃o',h'.get? b=some o')
   (oH:∀b xs,H b=some (.tup xs)→H' b=some (.tup xs)) (qQ:∀b o u,H b=some (.nQ o u)→H' b=some (.nQ o u)) (tP:∀b ps,H b=some (.Kz ps)→∃more,H' b=some (.Kz (ps++more)))
   (ns:∀m,s.heap.Ns X.env.locals m→h'.Ns X.env.locals m) (iG:pN X.prog X.w H' h') (hg:AllBare g') :
   Inv X pins σ H' {s with heap:=h',gens:=g',drawn:=d',toks:=t'}:=by
 have X8:∀b o,X.s₀.heap.get? b=some o→b≠X.env.locals:=fun b o e=>aaM (aaw (Heap.lt_size e) I.ok.above)
 have S9:∀b o,X.s₀.heap.get? b=some o→b∉X.ex→b∉ch:=fun b o e hx hb=>by
   rcases(KA b hb).1 with z|z
   · exact hx z
   · exact absurd (aaw (Heap.lt_size e) z) (aa8 _)
 have cellK:∀x c,X.env.cells.lookup x=some c→∀v,s.heap.IsCell c v→h'.IsCell c v:=fun x c e v ⟨o,ho,hd⟩=>by
   have Q7:c∉ch:=fun z=>(KA c z).2.2.1 x c e rfl
   by_cases hc:c∈X.fs
   · obtain⟨sl,q⟩:=slot c o (I.KS x c e) hc Q7 ho (I.k_ x c e)
     exact⟨_,q,hd⟩
   · exact⟨o,keep c o (I.KS x c e) hc Q7 ho (I.k_ x c e),hd⟩
 refine⟨I.ok,I.os,hg,⟨fun b o e n hb hx=>?_,fun b o e n hb hx=>?_,fun b o e n hx=>?_,fun b o e hx=>?_,fun b xs e=>oH b xs (I.base.oH b xs e),fun b o xs e=>qQ b o xs (I.base.qQ b o xs e),fun b ps e=>?_⟩,?_,fun x c e=>?_,?_,fun x c e=>?_,fun p hp=>?_,iG,I.len⟩
 · exact keep b o (X8 b o e) hb (S9 b o e hx) (I.base.keep b o e n hb hx) (I.base.free b o e n hx)
 · obtain⟨sl,e1⟩:=I.base.slot b o e n hb hx
   obtain⟨Va,e2⟩:=slot b _ (X8 b o e) hb (S9 b o e hx) e1 (I.base.free b o e n hx)
   exact⟨Va,e2⟩
 · obtain⟨o',e1⟩:=I.base.there b o e hx
   exact free b o' (S9 b o e hx) e1 (I.base.free b o e n hx)
 · obtain⟨o',e1⟩:=I.base.there b o e hx
   exact there b o' (S9 b o e hx) e1
 · obtain⟨m1,e1⟩:=I.base.tP b ps e
   obtain⟨m2,e2⟩:=tP b _ e1
   exact⟨m1++m2,by rw[e2,Array.append_assoc]⟩
 · obtain⟨m,hn,hl⟩:=I.loc
   refine⟨m,ns m hn,fun i x v e1 e2 e3=>?_⟩
   obtain⟨u,r,l⟩:=hl i x v e1 e2 e3
   refine⟨u,r,?_⟩
   rcases l with l|⟨k,c,e,z⟩
   · exact .inl l
   · exact .inr ⟨k,c,e,cellK x c e _ z⟩
 · obtain⟨v,z⟩:=I.cell x c e
   exact⟨v,cellK x c e v z⟩
 · obtain⟨m,⟨o,_,_,ho,_⟩,_⟩:=I.loc
   exact free _ o (fun z=>(KA _ z).2.1 rfl) ho I.free
 · obtain⟨v,o,ho,hd⟩:=I.cell x c e
   exact free c o (fun z=>(KA c z).2.2.1 x c e rfl) ho (I.k_ x c e)
 · obtain⟨e,n,ne,nf,d⟩:=I.pin p hp
   have Q7:p.1∉ch:=fun z=>(KA p.1 z).2.2.2 p hp rfl
   exact⟨keep p.1 p.2 ne nf Q7 e n,free p.1 p.2 Q7 e n,ne,nf,d⟩
theorem Inv.un{t':Nat}(I:Inv X pins σ H s)(u:Un X.fs [] H H' s.heap h')(iG:pN X.prog X.w H' h'):Inv X pins σ H' {s with heap:=h',toks:=t'}:=by
 obtain⟨m,⟨o,es,ep,ho,r⟩,_⟩:=id I.loc
 obtain⟨sl,hL⟩:=u.any ho I.free (by simp)
 exact I.step (g':=s.gens) (d':=s.drawn) (ch:=[]) (fun _ z=>nomatch z) (fun b o _ hb _ e n=>u.keep b o e n hb (by simp)) (fun b o _ hb _ e n=>u.slot b o e n hb (by simp)) (fun b o _ e n=>u.free b o e n (by simp)) (fun b o _ e=>u.there b o e (by simp)) u.oH u.qQ u.tP (fun m' hm=>by
   obtain⟨o',Pn,My,nX,r'⟩:=hm
   rw[ho] at nX;cases nX
   exact⟨_,Pn,My,hL,r'⟩) iG I.bare
theorem Inv.call{g':Array GenState}{t':Nat}{d':Drawn}{ch:List Addr}(I:Inv X pins σ H s)(u:Un (qO X.stack) ch H H' s.heap h')(iG:pN X.prog X.w H' h')(hg:AllBare g')
   (KA:∀b∈ch,(b∈X.ex∨X.s₀.heap.objs.size≤b)∧b≠X.env.locals∧(∀x c,X.env.cells.lookup x=some c→c≠b)∧∀p∈X.pn++pins,p.1≠b) :
   Inv X pins σ H' {s with heap:=h',gens:=g',drawn:=d',toks:=t'}:=by
 obtain⟨m,⟨o,es,ep,ho,r⟩,_⟩:=id I.loc
 obtain⟨sl,hL⟩:=u.any ho I.free fun z=>(KA _ z).2.1 rfl
 exact I.step (ch:=ch) KA (fun b o hL hb hc e n=>u.keep b o e n (fun z=>(XU.mp (I.vM b z)).elim hL hb) hc) (fun b o _ _ hc e n=>u.any e n hc) (fun b o hc e n=>u.free b o e n hc) (fun b o hc e=>u.there b o e hc) u.oH u.qQ u.tP (fun m' hm=>by
   obtain⟨o',Pn,My,nX,r'⟩:=hm
   rw[ho] at nX;cases nX
   exact⟨_,Pn,My,hL,r'⟩) iG hg
theorem Inv.turned{t':Nat}{it:Addr}(I:Inv X pins σ H s)(k:∀b o,b≠it→s.heap.get? b=some o→h'.get? b=some o)(hn:H it=none)(hL:it≠X.env.locals)
   (h1:it∈X.ex∨X.s₀.heap.objs.size≤it) (h2:∀x c,X.env.cells.lookup x=some c→c≠it) (h3:∀p∈X.pn++pins,p.1≠it):Inv X pins σ H {s with heap:=h',toks:=t'}:=by
 have X_:∀b u,H b=some u→b≠it:=fun b u e z=>by rw[z,hn] at e;cases e
 refine I.step (g':=s.gens) (d':=s.drawn) (ch:=[it]) (fun b hb=>?_) (fun b o _ _ hc e _=>k b o (fun z=>hc (by simp[z])) e) (fun b o _ _ hc e _=>⟨o.slots,k b o (fun z=>hc (by simp[z])) e⟩) (fun _ _ _ _ n=>n)
   (fun b o hc e=>⟨o,k b o (fun z=>hc (by simp[z])) e⟩) (fun _ _ e=>e) (fun _ _ _ e=>e) (fun b ps e=>⟨#[],by rw[e];simp⟩) (fun m hm=>?_) (fun b u e=>?_) I.bare
 · have e:b=it:=by simpa using hb
   subst e
   exact⟨h1,hL,h2,h3⟩
 · obtain⟨o,es,ep,ho,r⟩:=hm
   exact⟨o,es,ep,k _ o (Ne.symm hL) ho,r⟩
 · refine(I.iG b u e).vL (fun c v hc q=>k c v ?_ q) (fun _ q=>q) fun _ _ q=>q
   rcases hc with z|z
   · rw[z];exact X_ b u e
   · exact X_ c _ z
theorem Inv.tok(I:Inv X pins σ H s)(t:Nat):Inv X pins σ H {s with toks:=t}:=I.un (h':=s.heap) (t':=t) Un.refl I.iG
theorem Inv.kept{t':Nat}(I:Inv X pins σ H s)(k:∀b u,s.heap.get? b=some u→h'.get? b=some u):Inv X pins σ H {s with heap:=h',toks:=t'}:=I.un (Un.kept k) (I.iG.kept k)
theorem Inv.laid{a:Addr}{o:HO}{t':Nat}(I:Inv X pins σ H s)(k:∀b u,s.heap.get? b=some u→h'.get? b=some u)(hp:s.heap.objs.size≤a)(new:i9 X.prog X.w (upd H a o) h' a o) :
   Inv X pins σ (upd H a o) {s with heap:=h',toks:=t'}:=I.un (Un.laid k hp (I.iG.fresh hp)) (I.iG.laid k hp new)
theorem Inv.write{x e:Addr}{o:HO}{t':Nat}(I:Inv X pins σ H s)(mu:Mg (H x))(he:e=x∨H e=some (.own x))(k:∀b u,b≠e→s.heap.get? b=some u→h'.get? b=some u)(Kb:∃u,h'.get? e=some u)
   (new:i9 X.prog X.w (upd H x o) h' x o):Inv X pins σ (upd H x o) {s with heap:=h',toks:=t'}:=I.un (Un.write mu he k Kb) (I.iG.write mu he k Kb new)
theorem Inv.yq{Mz:List (Addr×Obj)}(I:Inv X pins σ H s)(h:∀p∈Mz,s.heap.get? p.1=some p.2∧H p.1=none∧p.1≠X.env.locals∧p.1∉X.fs∧∀v,p.2.data≠.cell v):Inv X Mz σ H s:=
 ⟨I.ok,I.os,I.bare,I.base,I.loc,I.cell,I.free,I.k_,fun p hp=>(aaa.mp hp).elim (fun z=>I.pin p (aal _ z)) (h p),I.iG,I.len⟩
theorem yE{N:List Str}(hN:N.Nodup){i j:Nat}{x:Str}(a:N[i]?=some x)(b:N[j]?=some x):i=j:=by
 obtain⟨h1,e1⟩:=RL.mp a
 obtain⟨h2,e2⟩:=RL.mp b
 exact(List.getElem_inj hN).mp (e1.trans e2.symm)
theorem A3{M:Model}{A:Around}{E:Value→Shared→Prop}{i:Nat}{x:Str}{v:V}{u:Value}{Q:Unit→Shared→Prop}(I:Inv X pins σ H s)(hN:X.N.Nodup)(hi:X.N[i]?=some x)(hx:Loc X.env.scope x)(r:RelV v u)
   (h:∀s',Inv X pins (σ.set i (some v)) H s'→(∃a,Heap.SameBut a s.heap s'.heap∧(a=X.env.locals∨X.env.cells.lookup x=some a))→Q () s') (hf:X.fn x=true∨X.env.scope.names.lookup x=some .local:=by first|exact .inl rfl|exact .inr rfl|assumption):wpAny M A (storeName X.env x u) Q E s:=by
 obtain⟨m,hn,hl⟩:=id I.loc
 have Oz:(X.env.scope.kind ==.class||(X.env.scope.kind ==.module&&X.env.locals != X.env.globals))=false:=by rw[I.ok.kind];rfl
 have S_:i<σ.length:=by rw[I.len];exact(RL.mp hi).1
 have KS:=I.KS
 have tracked:∀{a:Addr} {h':Heap},(∃o,s.heap.get? a=some o∧H a=none)→Heap.SameBut a s.heap h'→pN X.prog X.w H h':=fun{a h'} ha hs b ob e=>by
   obtain⟨_,_,tN⟩:=ha
   refine(I.iG b ob e).vL (fun c w' hc q=>(hs.2 c ?_).trans q) (fun _ q=>q) fun _ _ q=>q
   rintro rfl
   rcases hc with rfl|hc
   · rw[tN] at e;cases e
   · rw[tN] at hc;cases hc
 rcases hx with hk|hk
 · refine wpAny_storeName_local hk hn (fun h' MA hs=>?_) Oz
   obtain⟨oL,_,_,hoL,_⟩:=id hn
   refine h _ ⟨I.ok,I.os,I.bare,⟨fun b o e n hb hx=>?_,fun b o e n hb hx=>?_,I.base.free,fun b o e hx=>?_,I.base.oH,I.base.qQ,I.base.tP⟩,⟨_,MA,fun j y v' e1 e2 e3=>?_⟩,fun y c e=>?_,I.free,I.k_,fun p hp=>?_,tracked ⟨oL,hoL,I.free⟩ hs,by simpa using I.len⟩ ⟨_,hs,.inl rfl⟩
   · exact(hs.2 b (aaM (aaw (Heap.lt_size e) I.ok.above))).trans (I.base.keep b o e n hb hx)
   · obtain⟨sl,e1⟩:=I.base.slot b o e n hb hx
     exact⟨sl,(hs.2 b (aaM (aaw (Heap.lt_size e) I.ok.above))).trans e1⟩
   · obtain⟨o',e1⟩:=I.base.there b o e hx
     exact⟨o',(hs.2 b (aaM (aaw (Heap.lt_size e) I.ok.above))).trans e1⟩
   · by_cases hj:j=i
     · subst hj
       rw[hi] at e1;cases e1
       rw[aaZ S_] at e2
       cases e2
       exact⟨u,r,.inl ⟨hk,by simp⟩⟩
     · rw[aa5 (Ne.symm hj)] at e2
       obtain⟨u',r',q⟩:=hl j y v' e1 e2 e3
       refine⟨u',r',?_⟩
       rcases q with⟨k,e⟩|⟨k,c,e,z⟩
       · refine .inl ⟨k,?_⟩
         have:y≠x:=fun e=>hj (yE hN e1 (e▸hi))
         simp[this,e]
       · exact .inr ⟨k,c,e,z.sameBut hs (KS y c e)⟩
   · obtain⟨w',z⟩:=I.cell y c e
     exact⟨w',z.sameBut hs (KS y c e)⟩
   · obtain⟨e,n,ne,nf,d⟩:=I.pin p hp
     exact⟨(hs.2 p.1 ne).trans e,n,ne,nf,d⟩
 · have KC:X.fn x=true:=by
     rcases hf with z|z
     · exact z
     · rw[z] at hk;cases hk
   obtain⟨c,hc⟩:=I.ok.has x (.inl hk)
   obtain⟨w',z⟩:=I.cell x c hc
   refine wpAny_storeName_cell I.ok.kind hk hc z (fun h' BG hs=>?_)
   obtain⟨oc,Ya,Vb⟩:=id z
   refine h {s with heap:=h'} ⟨I.ok,I.os,I.bare,⟨fun b o e n hb hx=>?_,fun b o e n hb hx=>?_,I.base.free,fun b o e hx=>?_,I.base.oH,I.base.qQ,I.base.tP⟩,⟨m,hn.sameBut hs (Ne.symm (KS x c hc)),fun j y v' e1 e2 e3=>?_⟩,fun y c' e=>?_,I.free,I.k_,fun p hp=>?_,tracked ⟨oc,Ya,I.k_ x c hc⟩ hs,by simpa using I.len⟩ ⟨c,hs,.inr hc⟩
   · exact(hs.2 b (aaM (aaw (Heap.lt_size e) (I.ok.KQ x c KC hc)))).trans (I.base.keep b o e n hb hx)
   · obtain⟨sl,e1⟩:=I.base.slot b o e n hb hx
     exact⟨sl,(hs.2 b (aaM (aaw (Heap.lt_size e) (I.ok.KQ x c KC hc)))).trans e1⟩
   · obtain⟨o',e1⟩:=I.base.there b o e hx
     exact⟨o',(hs.2 b (aaM (aaw (Heap.lt_size e) (I.ok.KQ x c KC hc)))).trans e1⟩
   · by_cases hj:j=i
     · subst hj
       rw[hi] at e1;cases e1
       rw[aaZ S_] at e2
       cases e2
       exact⟨u,r,.inr ⟨.inl hk,c,hc,BG⟩⟩
     · rw[aa5 (Ne.symm hj)] at e2
       obtain⟨u',r',q⟩:=hl j y v' e1 e2 e3
       refine⟨u',r',?_⟩
       rcases q with q|⟨k,c',e,z'⟩
       · exact .inl q
       · refine .inr ⟨k,c',e,z'.sameBut hs ?_⟩
         rintro rfl
         exact hj (yE hN e1 (I.ok.inj _ _ _ e hc▸hi))
   · by_cases Yb:c'=c
     · subst Yb;exact⟨_,BG⟩
     · obtain⟨w2,z2⟩:=I.cell y c' e
       exact⟨w2,z2.sameBut hs Yb⟩
   · obtain⟨e,n,ne,nf,d⟩:=I.pin p hp
     refine⟨(hs.2 p.1 ?_).trans e,n,ne,nf,d⟩
     intro q
     rw[q,Ya] at e
     have q':oc=p.2:=aat e
     exact d w' (by rw[←q'];exact Vb)
theorem yF{M:Model}{A:Around}{E:Value→Shared→Prop}{i:Nat}{x:Str}{v:V}{u:Value}{Q:Unit→Shared→Prop}(I:Inv X pins σ H s)(hN:X.N.Nodup)(hi:X.N[i]?=some x)(hx:Loc X.env.scope x)(r:RelV v u)
   (h:∀s',Inv X pins (σ.set i (some v)) H s'→Q () s') (hf:X.fn x=true∨X.env.scope.names.lookup x=some .local:=by first|exact .inl rfl|exact .inr rfl|assumption):wpAny M A (storeName X.env x u) Q E s:=
 A3 I hN hi hx r (fun s' I' _=>h s' I') hf
theorem Inv.Mi{s':Shared}{ch:List Addr}(I:Inv X pins σ H s)(ho:s'.os=s.os)(u:Un (qO X.stack) ch H H' s.heap s'.heap)(iG:pN X.prog X.w H' s'.heap)(hg:AllBare s'.gens)
   (KA:∀b∈ch,(b∈X.ex∨X.s₀.heap.objs.size≤b)∧b≠X.env.locals∧(∀x c,X.env.cells.lookup x=some c→c≠b)∧∀p∈X.pn++pins,p.1≠b):Inv X pins σ H' s':=by
 obtain⟨h',g',d',t',o'⟩:=s'
 have e:o'=s.os:=ho
 subst e
 exact I.call (g':=g') (t':=t') (d':=d') u iG hg KA
end
abbrev XK:=Value→Option Addr→Hp→Prop
abbrev St:=List (Option V)
abbrev VK:=V→Hp→Prop
abbrev TE:=St→Hp→VK→Prop
abbrev TT:=St→Hp→(Bool→Hp→Prop)→Prop
abbrev TA:=St→Hp→(List V→Hp→Prop)→Prop
structure Ends where
 nx:St→Hp→Prop
 rt:VK
 bk:St→Hp→Prop:=fun _ _=>False
 ct:St→Hp→Prop:=fun _ _=>False
abbrev TS:=Ends→St→Hp→Prop
def EP(X:Cx)(pins:List (Addr×Obj))(σ:St)(Q:VK)(u:Value)(s':Shared):Prop:=∃v H',Inv X pins σ H' s'∧RelV v u∧Q v H'
def TP(X:Cx)(pins:List (Addr×Obj))(σ:St)(Q:Bool→Hp→Prop)(b:Bool)(s':Shared):Prop:=∃H',Inv X pins σ H' s'∧Q b H'
def AP(X:Cx)(pins:List (Addr×Obj))(σ:St)(Q:List V→Hp→Prop)(us:List Value)(s':Shared):Prop:=∃vs H',Inv X pins σ H' s'∧Vals vs us∧Q vs H'
def SP(X:Cx)(pins:List (Addr×Obj))(D:Ends)(f:Flow)(s':Shared):Prop:=
 match f with
 | .next=>∃σ' H',Inv X pins σ' H' s'∧D.nx σ' H'
 | .brk=>∃σ' H',Inv X pins σ' H' s'∧D.bk σ' H'
 | .cont=>∃σ' H',Inv X pins σ' H' s'∧D.ct σ' H'
 | .ret u=>∃v σ' H',Inv X pins σ' H' s'∧RelV v u∧D.rt v H'
def PE(X:Cx)(e:Expr)(t:TE):Prop:=
 ∀(pins:List (Addr×Obj))(s:Shared)(σ:St)(H:Hp)(Q:VK),Inv X pins σ H s→t σ H Q→wpAny (model X.prog X.w) X.A (eval e X.env) (EP X pins σ Q) X.xe s
def PT(X:Cx)(e:Expr)(t:TT):Prop:=
 ∀(pins:List (Addr×Obj))(s:Shared)(σ:St)(H:Hp)(Q:Bool→Hp→Prop),Inv X pins σ H s→t σ H Q→wpAny (model X.prog X.w) X.A (isTrue e X.env (eval e X.env)) (TP X pins σ Q) X.xe s
def PW(X:Cx)(e:Expr)(t:TT):Prop:=
 ∀(whole:Sem Value)(pins:List (Addr×Obj))(s:Shared)(σ:St)(H:Hp)(Q:Bool→Hp→Prop),Inv X pins σ H s→t σ H Q→wpAny (model X.prog X.w) X.A (isTrue e X.env whole) (TP X pins σ Q) X.xe s
theorem PW.pt{X:Cx}{e:Expr}{t:TT}(h:PW X e t):PT X e t:=h _
def PA(X:Cx)(es:List Expr)(t:TA):Prop:=
 ∀(pos:Pos)(pins:List (Addr×Obj))(s:Shared)(σ:St)(H:Hp)(Q:List V→Hp→Prop),Inv X pins σ H s→t σ H Q→wpAny (model X.prog X.w) X.A (spliced (backTo pos (starEach es X.env))) (AP X pins σ Q) X.xe s
def PS(X:Cx)(st:Stmt)(t:TS):Prop:=
 ∀(pins:List (Addr×Obj))(s:Shared)(σ:St)(H:Hp)(D:Ends),Inv X pins σ H s→t D σ H→wpAny (model X.prog X.w) X.A (exec st X.env) (SP X pins D) X.xe s
def Dg(X:Cx)(st:List Stmt)(t:TS):Prop:=
 ∀(pins:List (Addr×Obj))(s:Shared)(σ:St)(H:Hp)(D:Ends),Inv X pins σ H s→t D σ H→wpAny (model X.prog X.w) X.A (execs st X.env) (SP X pins D) X.xe s
theorem iY{α:Type}{t:Sem α}{Q Q':α→Shared→Prop}{M:Model}{A:Around}{E:Value→Shared→Prop}{s:Shared}(h:wpAny M A t Q E s)(hQ:∀a s,Q a s→Q' a s):wpAny M A t Q' E s:=wpAny_mono h hQ fun _ _ x=>x
section
variable{X:Cx}
def P1(i:Nat):TE:=fun σ H Q=>∃v,σ[i]?=some (some v)∧Q v H
def tC(v:V):TE:=fun _ H Q=>Q v H
theorem M4{i:Nat}{x:Str}{pos:Pos}(hN:X.N[i]?=some x)(hv:Uc X.env.scope x)(hd:(x ==("__debug__":Str))=false:=by decide)(Ay:(x ==("__classdict__":Str))=false:=by decide):PE X (.Name x pos) (P1 i):=by
 intro pins s σ H Q I h
 obtain⟨v,e,h⟩:=h
 obtain⟨m,hn,hl⟩:=I.loc
 obtain⟨u,r,l⟩:=hl i x v hN e hv
 have fin:EP X pins σ Q u s:=⟨v,H,I,r,h⟩
 rcases l with⟨hk,hm⟩|⟨hk,c,hc,MB⟩
 · exact wpAny_Name (wpAny_loadName_local I.ok.kind hk hn hm fin) hd
 · rcases hk with hk|hk
   · exact wpAny_Name (wpAny_loadName_cell I.ok.kind hk hc MB fin) hd
   · exact wpAny_Name (wpAny_loadName_free I.ok.kind hk hc MB fin Ay) hd
theorem f_{i j pos}:PE X (.Constant (.int i) j pos) (tC (.int i)):=fun _ _ _ H _ I h=>wpAny_Constant_int ⟨.int i,H,I.tok _,⟨_,rfl⟩,h⟩
theorem qR{b j pos}:PE X (.Constant (.bool b) j pos) (tC (.bl b)):=fun _ _ _ H _ I h=>Constant_bool ⟨.bl b,H,I,rfl,h⟩
theorem tQ{j pos}:PE X (.Constant .none j pos) (tC .jv):=fun _ _ _ H _ I h=>Constant_none ⟨.jv,H,I,rfl,h⟩
theorem ix{x j pos}:PE X (.Constant (.str x) j pos) (tC (.str x)):=fun _ _ _ H _ I h=>Calls.Constant_str ⟨.str x,H,I.tok _,⟨_,rfl⟩,h⟩
def Gl(X:Cx)(x:Str):Prop:=X.env.kindOf x=some .globalImplicit
theorem nY{E:Value→Shared→Prop}{pins:List (Addr×Obj)}{s:Shared}{σ:St}{H:Hp}{x:Str}{u:Value}{pos:Pos}{Q:Value→Shared→Prop}(I:Inv X pins σ H s)(hg:Gl X x)(hm:X.mg x=some u)(h:Q u s)
   (hd:(x ==("__debug__":Str))=false:=by decide):wpAny (model X.prog X.w) X.A (eval (.Name x pos) X.env) Q E s:=
 Calls.Name_function_global I.ok.kind hg (Calls.loadGlobal_global (by rw[I.ok.glob];exact I.mod.glob.keeps I.bk) hm h) hd
theorem oI{E:Value→Shared→Prop}{pins:List (Addr×Obj)}{s:Shared}{σ:St}{H:Hp}{x:Str}{u:Value}{pos:Pos}{Q:Value→Shared→Prop}(I:Inv X pins σ H s)(hg:Gl X x)(hm:X.mg x=none)(hv:bootBuiltins x=some u)(h:Q u s)
   (hn:x≠"__name__":=by decide) (hd:(x ==("__debug__":Str))=false:=by decide):wpAny (model X.prog X.w) X.A (eval (.Name x pos) X.env) Q E s:=by
 obtain⟨mb,h1,h2⟩:=I.mod.blt
 exact Calls.Name_function_global I.ok.kind hg (Calls.loadGlobal_builtin (by rw[I.ok.glob];exact I.mod.glob.keeps I.bk) hm (by rw[I.ok.blt];exact h1.keeps I.bk) ((h2 x hn).trans hv) h) hd
theorem lx{x:Str}{v:V}{u:Value}{pos:Pos}(hg:Gl X x)(hm:X.mg x=some u)(r:RelV v u)(hd:(x ==("__debug__":Str))=false:=by decide):PE X (.Name x pos) (tC v):=
 fun _ _ _ H _ I h=>nY I hg hm ⟨v,H,I,r,h⟩ hd
theorem KU{x:Str}{v:V}{u:Value}{pos:Pos}(hg:Gl X x)(hm:X.mg x=none)(hv:bootBuiltins x=some u)(r:RelV v u)(hn:x≠"__name__":=by decide)(hd:(x ==("__debug__":Str))=false:=by decide):PE X (.Name x pos) (tC v):=
 fun _ _ _ H _ I h=>oI I hg hm hv ⟨v,H,I,r,h⟩ hn hd
variable{a b:Expr}{ta tb:TE}{pos:Pos}
def PC(X:Cx)(op:CmpOp)(a b:Expr)(t:TE):Prop:=
 ∀(pins:List (Addr×Obj))(s:Shared)(σ:St)(H:Hp)(Q:VK),Inv X pins σ H s→t σ H Q→
   wpAny (model X.prog X.w) X.A (eval a X.env) (fun v s₁=>wpAny (model X.prog X.w) X.A (eval b X.env) (fun u s₂=>wpAny (model X.prog X.w) X.A (compareOp op v u) (EP X pins σ Q) X.xe s₂) X.xe s₁) X.xe s
theorem Dh(b:Expr){op:CmpOp}(h:op≠.In)(h2:op≠.NotIn):behindInMarks op b=false:=by
 have e1:(op ==CmpOp.In)=false:=by cases op<;>first|rfl|exact absurd rfl h
 have e2:(op ==CmpOp.NotIn)=false:=by cases op<;>first|rfl|exact absurd rfl h2
 cases b<;>simp[behindInMarks,e1,e2]
def P2(ta:TE):TE:=fun σ H Q=>ta σ H fun x H1=>Q (.bl (!decide (x=.jv))) H1
theorem RelV.Iq{x:V}{v:Value}(r:RelV x v):(v ==Value.none)=decide (x=.jv):=by
 cases x with
 | jv=>cases r;rfl
 | bl _=>cases r;rfl
 | int _=>obtain⟨t,rfl⟩:=r;rfl
 | str _=>obtain⟨t,rfl⟩:=r;rfl
 | ES _=>obtain⟨t,rfl⟩:=r;rfl
 | PZ _=>obtain⟨t,rfl⟩:=r;rfl
 | ref _=>cases r;rfl
 | ty _=>cases r;rfl
theorem sE{j pos'}(ha:PE X a ta):PC X .IsNot a (.Constant .none j pos') (P2 ta):=by
 intro pins s σ H Q I h
 refine iY (ha pins s σ H _ I h) fun v s1 ⟨x,H1,I1,r1,q1⟩=>?_
 exact Constant_none (isnot_none_gen ⟨.bl _,H1,I1,by rw[r1.Iq];rfl,q1⟩)
def tB(t:TE):TT:=fun σ H Q=>t σ H fun x H1=>∃c,x=.bl c∧Q c H1
theorem M5{op:CmpOp}{t:TE}(h:PC X op a b t)(h1:behindInMarks op b=false:=by first|exact Dh _ (by decide) (by decide)|rfl):PE X (.Compare a [op] [b] pos) t:=fun pins s σ H Q I hw=>wpAny_Compare1 (h pins s σ H Q I hw) h1
theorem jq{op:CmpOp}{t:TE}(h:PC X op a b t)(h1:behindInMarks op b=false:=by first|exact Dh _ (by decide) (by decide)|rfl):PT X (.Compare a [op] [b] pos) (tB t):=by
 intro pins s σ H Q I hw
 refine wpAny_isTrue_Compare1 (iY (h pins s σ H _ I hw) fun v s1 h1=>iY h1 fun u s2 h2=>iY h2 fun c s3 ⟨x,H1,I1,r1,q1⟩=>?_) h1
 obtain⟨d,rfl,q⟩:=q1
 cases r1
 exact wpAny_truthy_bool ⟨H1,I1,q⟩
theorem ET{e:Expr}{t:TE}(h:PE X e t)(he:∀whole,isTrue e X.env whole=(do let v ←whole;standAt e.pos;holding [v] (truthy v)):=by intro _;rfl):PT X e (tB t):=by
 intro pins s σ H Q I hw
 refine isTrue_plain (iY (h pins s σ H _ I hw) fun v s1 ⟨x,H1,I1,r1,q1⟩=>?_) (he _)
 obtain⟨d,rfl,q⟩:=q1
 cases r1
 exact wpAny_truthy_bool ⟨H1,I1,q⟩
variable{tA Yc:TT}{rest:List Expr}
def Ud(t u:TT):TT:=fun σ H Q=>t σ H fun c H1=>if c=true then u σ H1 Q else Q false H1
def Ue(t:TT):TT:=fun σ H Q=>t σ H fun c H1=>Q (!c) H1
theorem pw_and1(ha:PT X a tA):PW X (.BoolOp .And [a] pos) tA:=by
 intro wh pins s σ H Q I h
 refine isTrue_and (iY (ha pins s σ H Q I h) fun c s1 e=>?_)
 cases c with
 | true=>exact isTrue_and_nil e
 | false=>exact e
theorem pw_and(ha:PT X a tA)(hb:PW X (.BoolOp .And (b::rest) pos) Yc):PW X (.BoolOp .And (a::b::rest) pos) (Ud tA Yc):=by
 intro wh pins s σ H Q I h
 refine isTrue_and (iY (ha pins s σ H _ I h) fun c s1 ⟨H1,I1,q1⟩=>?_)
 cases c with
 | true=>exact hb wh pins s1 σ H1 Q I1 q1
 | false=>exact⟨H1,I1,q1⟩
theorem yG(ha:PT X a tA):PT X (.UnaryOp .Not a pos) (Ue tA):=by
 intro pins s σ H Q I h
 exact isTrue_not (ha pins s σ H (fun c H1=>Q (!c) H1) I h)
def Ug(ta tb:TE):TE:=fun σ H Q=>ta σ H fun x H1=>∃c,x=.bl c∧if c=true then Q (.bl true) H1 else tb σ H1 Q
theorem M6{op}{t:TE}(h:PE X a t):PE X (.BoolOp op [a] pos) t:=fun pins s σ H Q I hw=>BoolOp_one (h pins s σ H Q I hw)
theorem P4(ha:PE X a ta)(hb:PE X (.BoolOp .Or (b::rest) pos) tb):PE X (.BoolOp .Or (a::b::rest) pos) (Ug ta tb):=by
 intro pins s σ H Q I h
 refine BoolOp_or (iY (ha pins s σ H _ I h) fun v s1 ⟨x,H1,I1,r1,q1⟩=>?_)
 obtain⟨c,rfl,q1⟩:=q1
 cases r1
 refine wpAny_truthy_bool ?_
 cases c with
 | false=>exact hb pins s1 σ H1 Q I1 q1
 | true=>exact⟨.bl true,H1,I1,rfl,q1⟩
end
def hV(K:PySem.W.Frag)(H:Hp)(a:Addr)(xs:List V):Prop:=
 Rd H a (.lst xs)∨
   ∃(o:Obj)(hX:Array Value)(n:Nat),K.lookup a=some o∧o.cls=.type "list"∧o.dict=none∧o.data=.seq hX n∧hX.size≤sizeLine∧Vals xs hX.toList
def vK(K:PySem.W.Frag)(H:Hp)(a:Addr)(xs:List V):Prop:=
 Rd H a (.tup xs)∨
   ∃(o:Obj)(hX:Array Value)(n:Nat),K.lookup a=some o∧o.cls=.type "tuple"∧o.data=.seq hX n∧hX.size≤sizeLine∧Vals xs hX.toList
def Uh:Value→Option V
 | .none=>some .jv
 | .bool b=>some (.bl b)
 | .int i _=>some (.int i)
 | .str x _=>some (.str x)
 | .bytes b _=>some (.ES b)
 | .float b _=>some (.PZ b)
 | .ref a=>some (.ref a)
 | .type n=>some (.ty n)
 | _=>none
theorem RelV.abs{x:V}{u:Value}(r:RelV x u):Uh u=some x:=by
 cases x with
 | jv=>cases r;rfl
 | bl _=>cases r;rfl
 | int _=>obtain⟨t,rfl⟩:=r;rfl
 | str _=>obtain⟨t,rfl⟩:=r;rfl
 | ES _=>obtain⟨t,rfl⟩:=r;rfl
 | PZ _=>obtain⟨t,rfl⟩:=r;rfl
 | ref _=>cases r;rfl
 | ty _=>cases r;rfl
theorem RelV.inj{x y:V}{u:Value}(r:RelV x u)(q:RelV y u):x=y:=aat (r.abs.symm.trans q.abs)
theorem Vals.inj:∀{xs ys:List V} {us:List Value},Vals xs us→Vals ys us→xs=ys
 | _,_,_,.nil,.nil=>rfl
 | _,_,_,.cons r t,.cons r' t'=>by rw[r.inj r',Vals.inj t t']
section
variable{X:Cx}{pins:List (Addr×Obj)}{σ:St}{H:Hp}{s:Shared}{a:Addr}{xs ys:List V}
theorem hV.of{K:PySem.W.Frag}(h:H a=some (.lst xs)):hV K H a xs:=.inl (.inl h)
theorem vK.of{K:PySem.W.Frag}(h:H a=some (.tup xs)):vK K H a xs:=.inl (.inl h)
theorem Inv.list(I:Inv X pins σ H s)(h:hV X.K H a xs):∃hX:List Value,Vals xs hX∧PlainL s.heap a hX.toArray∧xs.length≤sizeLine:=by
 rcases h with h|⟨o,hX,n,hk,hc,hd,hs,hz,r⟩
 · obtain⟨z,hX,n,r,e⟩:=h.ok I.iG
   exact⟨hX,r,⟨_,n,e,rfl,rfl,rfl⟩,z⟩
 · refine⟨hX.toList,r,⟨o,n,I.Az a o hk,hc,hd,by simpa using hs⟩,?_⟩
   have e:=r.length
   simp only [aa1] at e
   omega
theorem Inv.tuple(I:Inv X pins σ H s)(h:vK X.K H a xs):∃hX:List Value,Vals xs hX∧IsTup s.heap a hX.toArray∧xs.length≤sizeLine:=by
 rcases h with h|⟨o,hX,n,hk,hc,hs,hz,r⟩
 · obtain⟨z,hX,r,p⟩:=h.ok I.iG
   exact⟨hX,r,p,z⟩
 · refine⟨hX.toList,r,⟨o,I.Az a o hk,hc,n,by simpa using hs⟩,?_⟩
   have e:=r.length
   simp only [aa1] at e
   omega
theorem Inv.o6(I:Inv X pins σ H s)(h:hV X.K H a xs)(h':hV X.K H a ys):xs=ys:=by
 obtain⟨hX,r,⟨o,n,e,_,_,d⟩,_⟩:=I.list h
 obtain⟨its',r',⟨o',n',e',_,_,d'⟩,_⟩:=I.list h'
 rw[e] at e';cases e'
 rw[d] at d'
 injection d' with d1 _
 have:hX=its':=by simpa using congrArg Array.toList d1
 subst this
 exact r.inj r'
theorem Inv.G_(I:Inv X pins σ H s)(h:vK X.K H a xs)(h':vK X.K H a ys):xs=ys:=by
 obtain⟨hX,r,⟨o,e,_,n,d⟩,_⟩:=I.tuple h
 obtain⟨its',r',⟨o',e',_,n',d'⟩,_⟩:=I.tuple h'
 rw[e] at e';cases e'
 rw[d] at d'
 injection d' with d1 _
 have:hX=its':=by simpa using congrArg Array.toList d1
 subst this
 exact r.inj r'
end
abbrev Cx.AA(X:Cx)(E:Value→Shared→Prop):Cx:={X with xe:=E}
abbrev Cx.SW(X:Cx):Cx:=X.AA fun _ _=>False
theorem Cx.Ok.AA{X:Cx}(ok:X.Ok)(E:Value→Shared→Prop):(X.AA E).Ok:=
 ⟨ok.mod,ok.kind,ok.glob,ok.blt,ok.above,ok.inj,ok.has,ok.KQ,ok.hd,ok.frames,ok.Mh,ok.Pb,ok.bs,ok.G9,ok.pO,ok.Df,ok.qP,ok.Ij⟩
theorem Cx.Ok.qS{X:Cx}{E:Value→Shared→Prop}(ok:(X.AA E).Ok):X.Ok:=
 ⟨ok.mod,ok.kind,ok.glob,ok.blt,ok.above,ok.inj,ok.has,ok.KQ,ok.hd,ok.frames,ok.Mh,ok.Pb,ok.bs,ok.G9,ok.pO,ok.Df,ok.qP,ok.Ij⟩
section
variable{X:Cx}{pins:List (Addr×Obj)}{σ:St}{H:Hp}{s:Shared}{E:Value→Shared→Prop}
theorem Inv.AA(I:Inv X pins σ H s)(E:Value→Shared→Prop):Inv (X.AA E) pins σ H s:=⟨I.ok.AA E,I.os,I.bare,I.base,I.loc,I.cell,I.free,I.k_,I.pin,I.iG,I.len⟩
theorem Inv.qS(I:Inv (X.AA E) pins σ H s):Inv X pins σ H s:=⟨I.ok.qS,I.os,I.bare,I.base,I.loc,I.cell,I.free,I.k_,I.pin,I.iG,I.len⟩
theorem SP.qS{D:Ends}{f:Flow}{s':Shared}(h:SP (X.AA E) pins D f s'):SP X pins D f s':=by
 cases f with
 | next=>obtain⟨σ',H',I,q⟩:=h;exact⟨σ',H',I.qS,q⟩
 | brk=>obtain⟨σ',H',I,q⟩:=h;exact⟨σ',H',I.qS,q⟩
 | cont=>obtain⟨σ',H',I,q⟩:=h;exact⟨σ',H',I.qS,q⟩
 | ret u=>obtain⟨v,σ',H',I,r,q⟩:=h;exact⟨v,σ',H',I.qS,r,q⟩
theorem Dg.SW{st:List Stmt}{t:TS}(h:Dg X.SW st t):Dg X st t:=fun pins s σ H D I hw=>
 wpAny_mono (h pins s σ H D (I.AA _) hw) (fun _ _ q=>q.qS) fun _ _ z=>False.elim z
end
section
variable{X:Cx}{st:Stmt}{rest:List Stmt}{t u:TS}{e:Expr}{te:TE}{pos:Pos}
def P5:TS:=fun D σ H=>D.nx σ H
def Ui(t u:TS):TS:=fun D σ H=>t {D with nx:=u D} σ H
theorem hG:Dg X [] P5:=fun _ _ σ H _ I h=>wpAny_execs_nil ⟨σ,H,I,h⟩
theorem c_(h1:PS X st t)(h2:Dg X rest u):Dg X (st::rest) (Ui t u):=by
 intro pins s σ H D I h
 refine wpAny_execs_cons (iY (h1 pins s σ H {D with nx:=u D} I h) fun f s1 q=>?_)
 cases f with
 | next=>
   obtain⟨σ',H',I',q⟩:=q
   exact h2 pins s1 σ' H' D I' q
 | ret v=>exact q
 | brk=>exact q
 | cont=>exact q
theorem e_(h1:PS X st t):Dg X [st] t:=by
 intro pins s σ H D I h
 refine wpAny_execs_cons (iY (h1 pins s σ H D I h) fun f s1 q=>?_)
 cases f with
 | next=>exact wpAny_execs_nil q
 | ret v=>exact q
 | brk=>exact q
 | cont=>exact q
def P6:TS:=fun D σ H=>D.ct σ H
theorem Di:PS X (.Continue pos) P6:=fun _ _ σ H _ I h=>wpAny_Continue ⟨σ,H,I,h⟩
theorem Inv.quiet{pins:List (Addr×Obj)}{σ:St}{H:Hp}{s:Shared}(I:Inv X pins σ H s):interactive X.env=false:=by simp[interactive,I.ok.kind]
def P7(te:TE):TS:=fun D σ H=>te σ H fun _ H1=>D.nx σ H1
theorem hZ(he:PE X e te)(hs:swapsWith e none pos.line X.env=pure false:=by rfl):PS X (.Expr e pos) (P7 te):=by
 intro pins s σ H D I h
 exact wpAny_Expr_any (iY (he pins s σ H _ I h) fun v s1 ⟨x,H1,I1,r1,q1⟩=>⟨σ,H1,I1,q1⟩) I.quiet hs
def Uj(te:TE):TS:=fun D σ H=>te σ H D.rt
theorem gG(he:PE X e te):PS X (.Return (some e) pos) (Uj te):=by
 intro pins s σ H D I h
 exact wpAny_Return_some (iY (he pins s σ H _ I h) fun v s1 ⟨x,H1,I1,r1,q1⟩=>⟨x,σ,H1,I1,r1,q1⟩)
def Uk(c:TT)(t u:TS):TS:=fun D σ H=>c σ H fun b H1=>if b=true then t D σ H1 else u D σ H1
theorem iw{c:Expr}{a b:List Stmt}{tc:TT}(hc:PT X c tc)(ha:Dg X a t)(hb:Dg X b u):PS X (.If c a b pos) (Uk tc t u):=by
 intro pins s σ H D I h
 refine wpAny_If (iY (hc pins s σ H _ I h) fun d s1 ⟨H1,I1,q1⟩=>?_)
 cases d with
 | true=>exact ha pins s1 σ H1 D I1 q1
 | false=>exact hb pins s1 σ H1 D I1 q1
end
abbrev TG:=V→St→Hp→(St→Hp→Prop)→Prop
abbrev M7:=List V→St→Hp→(St→Hp→Prop)→Prop
def PG(X:Cx)(target:Expr)(t:TG):Prop:=
 ∀(pins:List (Addr×Obj))(s:Shared)(σ:St)(H:Hp)(v:V)(u:Value)(Q:St→Hp→Prop),Inv X pins σ H s→RelV v u→t v σ H Q→
   wpAny (model X.prog X.w) X.A (assign target X.env u) (fun _ s'=>∃σ' H',Inv X pins σ' H' s'∧Q σ' H') X.xe s
def SX(X:Cx)(ts:List Expr)(t:M7):Prop:=
 ∀(pins:List (Addr×Obj))(s:Shared)(σ:St)(H:Hp)(vs:List V)(us:List Value)(Q:St→Hp→Prop),Inv X pins σ H s→Vals vs us→t vs σ H Q→
   wpAny (model X.prog X.w) X.A (assignInOrder ((assignEach ts X.env).map (·.2)) us) (fun _ s'=>∃σ' H',Inv X pins σ' H' s'∧Q σ' H') X.xe s
abbrev M8:=V→V→V→Hp→(Hp→Prop)→Prop
def P8(X:Cx)(t:M8):Prop:=
 ∀(pins:List (Addr×Obj))(s:Shared)(σ:St)(H:Hp)(o i v:V)(ov iv u:Value)(Q:Hp→Prop),Inv X pins σ H s→RelV o ov→RelV i iv→RelV v u→t o i v H Q→
   wpAny (model X.prog X.w) X.A (setItem ov iv u) (fun _ s'=>∃H',Inv X pins σ H' s'∧Q H') X.xe s
section
variable{X:Cx}{pos:Pos}
def F_(i:Nat):TG:=fun v σ H Q=>Q (σ.set i (some v)) H
theorem gA{i:Nat}{x:Str}(hN:X.N.Nodup)(hi:X.N[i]?=some x)(hx:Loc X.env.scope x)(hf:X.fn x=true∨X.env.scope.names.lookup x=some .local:=by first|exact .inl rfl|exact .inr rfl|assumption):PG X (.Name x pos) (F_ i):=by
 intro pins s σ H v u Q I r h
 exact wpAny_assign_Name (yF I hN hi hx r (fun s' I'=>⟨_,H,I',h⟩) hf)
def Ul:M7:=fun vs σ H Q=>vs=[]∧Q σ H
def P9(t:TG)(u:M7):M7:=fun vs σ H Q=>∃v r,vs=v::r∧t v σ H fun σ' H'=>u r σ' H' Q
theorem Ga:SX X [] Ul:=by
 intro pins s σ H vs us Q I r h
 obtain⟨e,h⟩:=h
 subst e
 cases r
 exact assignInOrder_nil ⟨σ,H,I,h⟩
theorem uA{e:Expr}{es:List Expr}{t:TG}{u:M7}(h1:PG X e t)(h2:SX X es u)
   (hs:(assignEach (e::es) X.env).map (·.2)=assign e X.env::(assignEach es X.env).map (·.2):=by rfl):SX X (e::es) (P9 t u):=by
 intro pins s σ H vs us Q I r h
 obtain⟨v,vr,e1,h⟩:=h
 subst e1
 cases r with
 | cons r rr=>
   rw[hs]
   refine assignInOrder_cons (iY (h1 pins s σ H _ _ _ I r h) fun _ s1 ⟨σ1,H1,I1,q1⟩=>?_)
   exact h2 pins s1 σ1 H1 _ _ Q I1 rr q1
def Um(K:PySem.W.Frag)(n:Nat)(t:M7):TG:=fun v σ H Q=>∃a xs,v=.ref a∧vK K H a xs∧xs.length=n∧t xs σ H Q
theorem Ir{es:List Expr}{k:Nat}{t:M7}{n:Nat}(hc:X.calm=true)(h:SX X es t)
   (hn:(assignEach es X.env).length=n:=by rfl) (zZ:(assignEach es X.env).findIdx? (·.1)=none:=by rfl):PG X (.Tuple es k pos) (Um X.K n t):=by
 intro pins s σ H v u Q I r hw
 obtain⟨a,xs,e1,hq,hl,hw⟩:=hw
 subst e1
 cases r
 obtain⟨hX,rv,ht,hz⟩:=I.tuple hq
 refine assign_Tuple_tuple (I.ok.hd hc) ht (by simp[hn,←hl,rv.length]) zZ fun h' hx=>?_
 have I1:Inv X pins σ H {s with heap:=h'}:=I.kept (t':=s.toks) fun b o e=>hx b o (aaM (Heap.lt_size e)) e
 exact h pins _ σ H xs _ Q I1 (by simpa using rv) hw
def Uo(to ti:TE)(t:M8):TG:=fun v σ H Q=>to σ H fun o H1=>ti σ H1 fun i H2=>t o i v H2 fun H3=>Q σ H3
theorem BJ{o i:Expr}{to ti:TE}{t:M8}(ho:PE X o to)(hi:PE X i ti)(hs:P8 X t)
   (ha:∀v,assign (.Subscript o i pos) X.env v=(do
     let ov ←holding [v] (eval o X.env)
     let iv ←holding [v,ov] (eval i X.env)
     standAt pos
     holding [v,ov,iv] (setItem ov iv v)
     release [v,ov,iv] []):=by intro _;rfl):PG X (.Subscript o i pos) (Uo to ti t):=by
 intro pins s σ H v u Q I r h
 rw[ha]
 refine wpAny_bind (wpAny_holding (iY (ho pins s σ H _ I h) fun ov s1 ⟨x,H1,I1,r1,q1⟩=>?_))
 refine wpAny_bind (wpAny_holding (iY (hi pins s1 σ H1 _ I1 q1) fun iv s2 ⟨y,H2,I2,r2,q2⟩=>?_))
 refine wpAny_bind (wpAny_standAt (wpAny_bind (wpAny_holding (iY (hs pins s2 σ H2 x y v ov iv u _ I2 r1 r2 r q2) fun _ s3 ⟨H3,I3,q3⟩=>?_))))
 exact wpAny_release ⟨σ,H3,I3,q3⟩
def KW(te:TE)(g:TG):TS:=fun D σ H=>te σ H fun x H1=>g x σ H1 D.nx
theorem BK{tg e:Expr}{te:TE}{g:TG}(he:PE X e te)(hg:PG X tg g)(hs:swapsWithSole [tg] e pos.line X.env=pure false:=by rfl)(hw:swappedStores [tg] e X.env=pure none:=by rfl)
   (h1:(assignEach [tg] X.env).map (·.2)=[assign tg X.env]:=by rfl):PS X (.Assign [tg] e pos) (KW te g):=by
 intro pins s σ H D I h
 refine wpAny_Assign_stores (iY (he pins s σ H _ I h) fun v s1 ⟨x,H1,I1,r1,q1⟩=>?_) hs hw
 rw[h1]
 exact iY (hg pins s1 σ H1 x v _ I1 r1 q1) fun _ s2 q=>q
theorem gw{i:Nat}{x:Str}{e:Expr}{te:TE}{pos':Pos}(hN:X.N.Nodup)(hi:X.N[i]?=some x)(hx:Loc X.env.scope x)(he:PE X e te)(hs:swapsWith e (some (.Name x pos')) pos.line X.env=pure false:=by rfl)(hf:X.fn x=true∨X.env.scope.names.lookup x=some .local:=by first|exact .inl rfl|exact .inr rfl|assumption) :
   PS X (.Assign [.Name x pos'] e pos) (KW te (F_ i)):=by
 intro pins s σ H D I h
 refine wpAny_Assign_Name (iY (he pins s σ H _ I h) fun v s1 ⟨y,H1,I1,r1,q1⟩=>?_) hs
 exact yF I1 hN hi hx r1 (fun s2 I2=>⟨_,H1,I2,q1⟩) hf
def M9(c:TT)(tb:TS):TS:=fun D σ H=>∃W:Nat→St→Hp→Prop,(∃m,W m σ H)∧∀m σ H,W m σ H→
 c σ H fun b H1=>if b=true then ∃N:St→Hp→Prop,(∀σ' H',N σ' H'→∃m',m'<m∧W m' σ' H')∧tb {D with nx:=N,ct:=N,bk:=D.nx} σ H1 else D.nx σ H1
theorem Dj{c:Expr}{body:List Stmt}{tc:TT}{tb:TS}(hp:PassesOwn (model X.prog X.w) X.A X.env X.xe)(hc:PT X c tc)(hb:Dg X body tb):PS X (.While c body [] pos) (M9 tc tb):=by
 intro pins s σ H D I h
 obtain⟨W,⟨m0,w0⟩,turn⟩:=h
 refine wpAny_While (codeAny_whileLoop (fun n s'=>∃σ' H',Inv X pins σ' H' s'∧W n σ' H') ?_ m0 ⟨σ,H,I,w0⟩)
 rintro n s1 ⟨σ1,H1,I1,w1⟩
 refine wpAny_passesOwn hp (iY (hc pins s1 σ1 H1 _ I1 (turn n σ1 H1 w1)) fun b s2 ⟨H2,I2,q2⟩=>?_)
 cases b with
 | true=>
   obtain⟨N,hN,q2⟩:=q2
   rw[aap rfl]
   refine wpAny_passesOwn hp (iY (hb pins s2 σ1 H2 _ I2 q2) fun f s3 q3=>?_)
   cases f with
   | next=>
     obtain⟨σ3,H3,I3,n3⟩:=q3
     obtain⟨m',hm,w3⟩:=hN σ3 H3 n3
     exact⟨m',hm,σ3,H3,I3,w3⟩
   | cont=>
     obtain⟨σ3,H3,I3,n3⟩:=q3
     obtain⟨m',hm,w3⟩:=hN σ3 H3 n3
     exact⟨m',hm,σ3,H3,I3,w3⟩
   | brk=>exact q3
   | ret v=>exact q3
 | false=>
   rw[aak aad]
   exact wpAny_execs_nil ⟨σ1,H2,I2,q2⟩
end
structure It where
 go:Nat→Hp→Prop
 Iu:Nat→Hp→V→Hp→Prop
 stop:Nat→Hp→Prop
def tR(X:Cx)(pins:List (Addr×Obj))(H:Hp)(b:Addr):Prop:=
 H b=none∧b≠X.env.locals∧b∉X.fs∧(b∈X.ex∨X.s₀.heap.objs.size≤b)∧(∀x c,X.env.cells.lookup x=some c→c≠b)∧∀p∈X.pn++pins,p.1≠b
theorem Inv.yH{X:Cx}{pins:List (Addr×Obj)}{σ:St}{H H':Hp}{s:Shared}{b:Addr}(I:Inv X pins σ H s)(hb:s.heap.objs.size≤b)(hn:H' b=none):tR X pins H' b:=by
 refine⟨hn,Nat.ne_of_gt (aaw I.lt hb),I.P0 hb,.inr (aac I.sz hb),fun x c e z=>?_,fun p hp z=>?_⟩
 · obtain⟨v,q⟩:=I.cell x c e
   exact absurd (aaw q.lt (by rw[z];exact hb)) (aa8 _)
 · exact absurd (aaw (Heap.lt_size (I.pin p hp).1) (by rw[z];exact hb)) (aa8 _)
structure Turn(P:Program)(w:World)(K:PySem.W.Frag)(tg:Expr)(J:It)(fp:List Addr)(it:Addr)(tn:Nat→Heap→Prop):Prop where
 mem:it∈fp
 obj:∀i h,tn i h→∀b∈fp,∃o,h.get? b=some o∧∀v,o.data≠.cell v
 keep:∀i h h',tn i h→(∀b∈fp,∀o,h.get? b=some o→h'.get? b=some o)→tn i h'
 item:∀(X:Cx),X.prog=P→X.w=w→X.K=K→X.calm=true→∀(i:Nat)(pins:List (Addr×Obj))(s:Shared)(σ:St)(H:Hp)(E:Value→Shared→Prop),Inv X pins σ H s→(∀b∈fp,tR X pins H b)→tn i s.heap→J.go i H→
   wpAny (model P w) X.A (pyNext (.ref it)) (fun r s1=>∃u,r=some u∧
     wpAny (model P w) X.A (letOwnedTupleGo tg (.ref it) u) (fun _ s2=>∃x H',Inv X pins σ H' s2∧RelV x u∧J.Iu i H x H'∧tn (i+1) s2.heap∧∀b∈fp,H' b=none) E s1) E s
 done:∀(X:Cx),X.prog=P→X.w=w→X.K=K→X.calm=true→∀(i:Nat)(pins:List (Addr×Obj))(s:Shared)(σ:St)(H:Hp)(E:Value→Shared→Prop),Inv X pins σ H s→(∀b∈fp,tR X pins H b)→tn i s.heap→J.stop i H→
   wpAny (model P w) X.A (pyNext (.ref it)) (fun r s1=>r=none∧Inv X pins σ H s1) E s
 self:∀(A:Around)(i:Nat)(s:Shared)(Q:Value→Shared→Prop)(E:Value→Shared→Prop),tn i s.heap→Q (.ref it) s→wpAny (model P w) A (pyIter (.ref it)) Q E s
abbrev TI:=St→Hp→(It→Hp→Prop)→Prop
def Up(X:Cx)(pins:List (Addr×Obj))(σ:St)(tg:Expr)(R:It→Hp→Prop)(Ta:Value)(s2:Shared):Prop:=
 ∃(it:Addr)(fp:List Addr)(tn:Nat→Heap→Prop)(J:It)(H':Hp),Ta=.ref it∧Inv X pins σ H' s2∧Turn X.prog X.w X.K tg J fp it tn∧tn 0 s2.heap∧(∀b∈fp,tR X pins H' b)∧R J H'
def PI(X:Cx)(tg iter:Expr)(wi:TI):Prop:=
 ∀(pins:List (Addr×Obj))(s:Shared)(σ:St)(H:Hp)(R:It→Hp→Prop),Inv X pins σ H s→wi σ H R→
   wpAny (model X.prog X.w) X.A (eval iter X.env) (fun v s1=>wpAny (model X.prog X.w) X.A (pyIter v) (Up X pins σ tg R) X.xe s1) X.xe s
theorem yI{M:Model}{A:Around}{E:Value→Shared→Prop}{s:Shared}{tg:Expr}{it:Addr}{u:Value}{o:Obj}{n:String}{vs:Array Value}{Q:Unit→Shared→Prop}(ho:s.heap.get? it=some o)(hc:o.cls=.type n)(hd:o.data=.fields vs)
   (hn:["enumerate","zip","dict_itemiterator","dict_reverseitemiterator","odict_iterator","itertools.zip_longest","itertools.pairwise"].contains n=false) (hQ:Q () s):wpAny M A (letOwnedTupleGo tg (.ref it) u) Q E s:=by
 unfold letOwnedTupleGo
 cases tg<;>first
   | exact wpAny_pure hQ
   | (cases u<;>first
       | exact wpAny_pure hQ
       | (
          refine wpAny_bind (wpAny_load ho ?_)
          rw[hc,hd]
          show wpAny M A (if(["enumerate","zip","dict_itemiterator","dict_reverseitemiterator","odict_iterator","itertools.zip_longest","itertools.pairwise"].contains n&&vs[0]? ==some (rawInt _))=true then _ else _) Q E s
          rw[aak (by intro h;rw[hn,Bool.false_and] at h;cases h)]
          exact wpAny_pure hQ))
def Pc(K:PySem.W.Frag)(a:Addr):It:=
 ⟨fun i H=>∃xs x,hV K H a xs∧xs[i]?=some x,fun i H x H'=>H'=H∧∀xs,hV K H a xs→xs[i]?=some x,fun i H=>∃xs,hV K H a xs∧xs.length≤i⟩
def Mj(lo:Int)(n:Nat):It:=⟨fun i _=>i<n,fun i H x H'=>H'=H∧x=.int (lo+i),fun i _=>n≤i⟩
theorem Ha{P:Program}{w:World}{K:PySem.W.Frag}{tg:Expr}(a it:Addr):Turn P w K tg (Pc K a) [it] it (fun i h=>h.IsListIter it a i) where
 mem:=by simp
 obj:=fun i h st b hb=>by
   have e:b=it:=by simpa using hb
   subst e
   obtain⟨o,e,c,d⟩:=st
   exact⟨o,e,fun v z=>by rw[d] at z;cases z⟩
 keep:=fun i h h' st k=>st.at fun o e=>k it (by simp) o e
 item:=by
   intro X hP hw hK hc i pins s σ H E I hf st hg
   subst hP hw hK
   obtain⟨xs,x,hq,hx⟩:=hg
   obtain⟨hX,rv,p,hz⟩:=I.list hq
   obtain⟨u,hu,ru⟩:=rv.get hx
   obtain⟨f0,f1,f2,f3,f4,f5⟩:=hf it (by simp)
   refine wpAny_pyNext_list_item st p.isList (x:=u) (by simpa using hu) fun h' AU sb=>?_
   have I1:Inv X pins σ H {s with heap:=h'}:=I.turned (t':=s.toks) (fun b o hb e=>(sb.2 b hb).trans e) f0 f1 f3 f4 f5
   obtain⟨o,e,c,d⟩:=id AU
   exact⟨u,rfl,yI (s:={s with heap:=h'}) e c d (by decide) ⟨x,H,I1,ru,⟨rfl,fun ys hy=>by rw[I.o6 hy hq];exact hx⟩,AU,fun b hb=>(hf b hb).1⟩⟩
 done:=by
   intro X hP hw hK hc i pins s σ H E I hf st hg
   subst hP hw hK
   obtain⟨xs,hq,hx⟩:=hg
   obtain⟨hX,rv,p,hz⟩:=I.list hq
   obtain⟨f0,f1,f2,f3,f4,f5⟩:=hf it (by simp)
   have hl:=rv.length
   exact wpAny_pyNext_list_end (I.ok.hd hc) st p.isList (by simp;omega) fun h' eb=>⟨rfl,I.turned (t':=s.toks) (fun b o hb e=>eb b o hb e) f0 f1 f3 f4 f5⟩
 self:=fun _ _ _ _ _ st h=>wpAny_pyIter_listiter st h
theorem EU{P:Program}{w:World}{K:PySem.W.Frag}{tg:Expr}(it:Addr)(lo:Int)(n:Nat):Turn P w K tg (Mj lo n) [it] it (fun i h=>IsRangeIter h it (lo+(i:Nat)*1) ((n:Int)-(i:Nat)) 1) where
 mem:=by simp
 obj:=fun i h st b hb=>by
   have e:b=it:=by simpa using hb
   subst e
   exact⟨_,st,fun v z=>by
     have z':Data.fields _=Data.cell v:=z
     cases z'⟩
 keep:=fun i h h' st k=>k it (by simp) _ st
 item:=by
   intro X hP hw hK hc i pins s σ H E I hf st hg
   subst hP hw hK
   obtain⟨f0,f1,f2,f3,f4,f5⟩:=hf it (by simp)
   have W:=Walks.range (prog:=X.prog) (w:=X.w) (I.ok.hd hc) it lo 1 n
   refine W.item i s _ _ hg st fun v h' tk hv AU kk=>?_
   obtain⟨t,rfl⟩:=hv
   have I1:Inv X pins σ H {s with heap:=h',toks:=tk}:=I.turned (fun b o hb e=>kk b o (by simpa using hb) e) f0 f1 f3 f4 f5
   refine⟨_,rfl,yI (s:={s with heap:=h',toks:=tk}) (n:="range_iterator") AU rfl rfl (by decide) ⟨.int (lo+i),H,I1,⟨t,?_⟩,⟨rfl,rfl⟩,AU,fun b hb=>(hf b hb).1⟩⟩
   rw[Int.mul_one]
 done:=by
   intro X hP hw hK hc i pins s σ H E I hf st hg
   subst hP hw hK
   obtain⟨f0,f1,f2,f3,f4,f5⟩:=hf it (by simp)
   exact wpAny_pyNext_range_end (I.ok.hd hc) st (by have:n≤i:=hg;omega) fun h' eb=>⟨rfl,I.turned (t':=s.toks) (fun b o hb e=>eb b o hb e) f0 f1 f3 f4 f5⟩
 self:=fun _ _ _ _ _ st h=>wpAny_pyIter_rangeiter st h
section
variable{X:Cx}{tg:Expr}
def P_(K:PySem.W.Frag)(tl:TE):TI:=fun σ H R=>tl σ H fun x H1=>∃a,x=.ref a∧(∃xs,hV K H1 a xs)∧R (Pc K a) H1
theorem iz{l:Expr}{tl:TE}(hl:PE X l tl):PI X tg l (P_ X.K tl):=by
 intro pins s σ H R I h
 refine iY (hl pins s σ H _ I h) fun v s1 ⟨x,H1,I1,r1,q1⟩=>?_
 obtain⟨a,e,⟨xs,hq⟩,q⟩:=q1
 subst e
 cases r1
 obtain⟨hX,rv,p,hz⟩:=I1.list hq
 refine wpAny_pyIter_list p.isList ?_
 refine⟨s1.heap.objs.size,[s1.heap.objs.size],_,_,H1,rfl,I1.kept (t':=s1.toks) fun b o e=>Heap.get?_push_of_some _ e,Ha a _,⟨_,Heap.get?_push_size _ rfl,rfl,rfl⟩,fun b hb=>?_,q⟩
 have e:b=s1.heap.objs.size:=by simpa using hb
 subst e
 exact I1.yH (UU _) (I1.iG.fresh (UU _))
theorem Dl{pins:List (Addr×Obj)}{σ:St}{H:Hp}{s:Shared}{R:It→Hp→Prop}{E:Value→Shared→Prop}{lo hi:Int}{t u v:Tok}{tk:Nat}(I:Inv X pins σ H s)(h1:-(2 ^ 62)≤lo)(h2:lo<2 ^ 62)(h3:-(2 ^ 62)≤hi)(h4:hi<2 ^ 62)
   (q:R (Mj lo (hi-lo).toNat) H):wpAny (model X.prog X.w) X.A (pyIter (.ref s.heap.objs.size)) (Up X pins σ tg R) E {s with heap:=s.heap.push {cls:=.type "range",data:=.fields #[.int lo t,.int hi u,.int 1 v]},toks:=tk}:=by
 refine wpAny_pyIter_range (IsRange.new ..) (small_one h1 h2 h3 h4) ?_
 have I1:Inv X pins σ H {s with heap:=s.heap.push {cls:=.type "range",data:=.fields #[.int lo t,.int hi u,.int 1 v]},toks:=tk}:=I.kept fun b o e=>Heap.get?_push_of_some _ e
 refine⟨(s.heap.push {cls:=.type "range",data:=.fields #[.int lo t,.int hi u,.int 1 v]}).objs.size,[(s.heap.push {cls:=.type "range",data:=.fields #[.int lo t,.int hi u,.int 1 v]}).objs.size],_,_,H,rfl,
   I1.kept (t':=tk) fun b o e=>Heap.get?_push_of_some _ e,EU _ lo (hi-lo).toNat,?_,fun b hb=>?_,q⟩
 · have e1:lo+((0:Nat):Int)*1=lo:=by simp
   have e2:(((hi-lo).toNat:Nat):Int)-((0:Nat):Int)=Builtin.Range.rangeSize lo hi 1:=by rw[rangeSize_one];split<;>omega
   show IsRangeIter _ _ (lo+((0:Nat):Int)*1) ((((hi-lo).toNat:Nat):Int)-((0:Nat):Int)) 1
   rw[e1,e2]
   exact Heap.get?_push_size _ rfl
 · have e:b=(s.heap.push {cls:=.type "range",data:=.fields #[.int lo t,.int hi u,.int 1 v]}).objs.size:=by simpa using hb
   subst e
   exact I1.yH (UU _) (I1.iG.fresh (UU _))
def Qa(ta:TA):TI:=fun σ H R=>ta σ H fun vs H1=>∃j:Int,vs=[.int j]∧-(2 ^ 62)≤j∧j<2 ^ 62∧R (Mj 0 j.toNat) H1
def Qb(ta:TA):TI:=fun σ H R=>ta σ H fun vs H1=>∃i j:Int,vs=[.int i,.int j]∧(-(2 ^ 62)≤i∧i<2 ^ 62∧-(2 ^ 62)≤j∧j<2 ^ 62)∧R (Mj i (j-i).toNat) H1
theorem ke{a:Expr}{ta:TA}{p pos:Pos}(hg:Gl X "range")(hm:X.mg "range"=none)(ha:PA X [a] ta)(hs:starEach [a] X.env=[(false,eval a X.env)]:=by rfl):PI X tg (.Call (.Name "range" p) [a] [] pos) (Qa ta):=by
 intro pins s σ H R I h
 refine Call_ (oI I hg hm boot_range (aaP (iY (ha pos pins s σ H _ I h) fun us s1 ⟨vs,H1,I1,r1,q1⟩=>?_) hs rfl))
 obtain⟨j,e,q1,q2,q⟩:=q1
 subst e
 cases r1 with
 | cons r rr=>
   cases rr
   obtain⟨t,rfl⟩:=r
   exact call_range_1 (Dl I1 (by omega) (by omega) q1 q2 (by simpa using q))
theorem A4{a b:Expr}{ta:TA}{p pos:Pos}(hg:Gl X "range")(hm:X.mg "range"=none)(ha:PA X [a,b] ta)(hs:starEach [a,b] X.env=[(false,eval a X.env),(false,eval b X.env)]:=by rfl)(Im:starEach [b] X.env=[(false,eval b X.env)]:=by rfl) :
   PI X tg (.Call (.Name "range" p) [a,b] [] pos) (Qb ta):=by
 intro pins s σ H R I h
 refine Call_ (oI I hg hm boot_range (aaP (iY (ha pos pins s σ H _ I h) fun us s1 ⟨vs,H1,I1,r1,q1⟩=>?_) (by rw[hs,Im]) (by rw[Im];rfl)))
 obtain⟨i,j,e,⟨q1,q2,q3,q4⟩,q⟩:=q1
 subst e
 cases r1 with
 | cons r rr=>
   cases rr with
   | cons r' rr=>
     cases rr
     obtain⟨t,rfl⟩:=r
     obtain⟨t',rfl⟩:=r'
     exact call_range_2 (Dl I1 q1 q2 q3 q4 q)
def Uq(wi:TI)(g:TG)(tb:TS):TS:=fun D σ H=>wi σ H fun J H1=>∃W:Nat→Nat→St→Hp→Prop,(∃m,W 0 m σ H1)∧∀i m σ H,W i m σ H→
 (J.stop i H∧D.nx σ H)∨(J.go i H∧∃N:St→Hp→Prop,(∀σ' H',N σ' H'→∃m',m'<m∧W (i+1) m' σ' H')∧∀x H',J.Iu i H x H'→g x σ H' fun σ2 H2=>tb {D with nx:=N,ct:=N,bk:=D.nx} σ2 H2)
def yJ(fp:List Addr)(h:Heap):List (Addr×Obj):=fp.filterMap fun b=>(h.get? b).map fun o=>(b,o)
theorem pP{fp:List Addr}{h:Heap}{b:Addr}{o:Obj}(hb:b∈fp)(e:h.get? b=some o):(b,o)∈yJ fp h:=aby.mpr ⟨b,hb,by rw[e];rfl⟩
theorem Hb{fp:List Addr}{h:Heap}{p:Addr×Obj}(hp:p∈yJ fp h):p.1∈fp∧h.get? p.1=some p.2:=by
 obtain⟨b,hb,e⟩:=aby.mp hp
 cases q:h.get? b with
 | none=>rw[q] at e;cases e
 | some o=>
   rw[q] at e
   have e':(b,o)=p:=aat e
   subst e'
   exact⟨hb,q⟩
theorem Inv.pinned{pins:List (Addr×Obj)}{σ:St}{H:Hp}{s:Shared}{fp:List Addr}(I:Inv X pins σ H s)(hf:∀b∈fp,tR X pins H b)(ho:∀b∈fp,∃o,s.heap.get? b=some o∧∀v,o.data≠.cell v):Inv X (pins++yJ fp s.heap) σ H s:=
 I.yq fun p hp=>(aaa.mp hp).elim (fun z=>I.pin p (aaC _ z)) fun z=>by
   obtain⟨hb,e⟩:=Hb z
   obtain⟨f0,f1,f2,_⟩:=hf p.1 hb
   obtain⟨o,e',d⟩:=ho p.1 hb
   rw[e] at e';cases e'
   exact⟨e,f0,f1,f2,d⟩
theorem Inv.uB{pins pl:List (Addr×Obj)}{σ:St}{H:Hp}{s:Shared}(I:Inv X (pins++pl) σ H s):Inv X pins σ H s:=I.yq fun p hp=>I.pin p (aaC _ (aal _ hp))
theorem iO{iter:Expr}{body:List Stmt}{wi:TI}{g:TG}{tb:TS}{pos:Pos}(hp:PassesOwn (model X.prog X.w) X.A X.env X.xe)(hc:X.calm=true)(hi:PI X tg iter wi)(hg:PG X tg g)(hb:Dg X body tb)
   (hs:∀x,foldedSetIterable iter X.env x=pure x:=by intro _;rfl):PS X (.For tg iter body [] pos) (Uq wi g tb):=by
 intro pins s σ H D I h
 refine wpAny_For (iY (hi pins s σ H _ I h) fun v s1 h1=>iY h1 fun Ta s2 h2=>?_) hs
 obtain⟨it,fp,tn,J,H2,e,I2,T,AV,f2,W,⟨m0,w0⟩,turn⟩:=h2
 subst e
 have OA:∀{H':Hp},(∀b∈fp,H' b=none)→∀b∈fp,tR X pins H' b:=fun hn b hb=>⟨hn b hb,(f2 b hb).2⟩
 refine codeAny_forLoop_any (fun n s'=>∃i σ' H',Inv X pins σ' H' s'∧tn i s'.heap∧(∀b∈fp,H' b=none)∧W i n σ' H') ?_ m0 ⟨0,σ,H2,I2,AV,fun b hb=>(f2 b hb).1,w0⟩
 rintro n s3 ⟨i,σ3,H3,I3,qx,Q8,w3⟩
 rcases turn i n σ3 H3 w3 with⟨stop,qn⟩|⟨go,N,hN,step⟩
 · refine wpAny_passesOwn hp (iY (T.done X rfl rfl rfl hc i pins s3 σ3 H3 X.xe I3 (OA Q8) qx stop) fun r s4 ⟨hr,I4⟩=>?_)
   subst hr
   exact wpAny_execs_nil ⟨σ3,H3,I4,qn⟩
 · refine wpAny_passesOwn hp (iY (T.item X rfl rfl rfl hc i pins s3 σ3 H3 X.xe I3 (OA Q8) qx go) fun r s4 ⟨u,hr,h4⟩=>?_)
   subst hr
   refine wpAny_passesOwn hp (iY h4 fun _ s5 ⟨x,H5,I5,r5,y5,OB,Vc⟩=>?_)
   have Vd:=I5.pinned (OA Vc) (T.obj _ _ OB)
   refine wpAny_passesOwn hp (iY (hg _ s5 σ3 H5 x u _ Vd r5 (step x H5 y5)) fun _ s6 ⟨σ6,H6,I6,q6⟩=>?_)
   refine wpAny_passesOwn hp (iY (hb _ s6 σ6 H6 _ I6 q6) fun f s7 q7=>?_)
   have again:∀{σ7:St} {H7:Hp},Inv X (pins++yJ fp s5.heap) σ7 H7 s7→N σ7 H7→∃m,m<n∧∃i σ' H',Inv X pins σ' H' s7∧tn i s7.heap∧(∀b∈fp,H' b=none)∧W i m σ' H':=fun{σ7 H7} I7 n7=>by
     obtain⟨m',hm,w7⟩:=hN σ7 H7 n7
     refine⟨m',hm,i+1,σ7,H7,I7.uB,T.keep _ _ _ OB fun b hb o e=>(I7.pin (b,o) (aaC _ (aaC _ (pP hb e)))).1,fun b hb=>?_,w7⟩
     obtain⟨o,e,d⟩:=T.obj _ _ OB b hb
     exact(I7.pin (b,o) (aaC _ (aaC _ (pP hb e)))).2.1
   cases f with
   | next=>obtain⟨σ7,H7,I7,n7⟩:=q7;exact again I7 n7
   | cont=>obtain⟨σ7,H7,I7,n7⟩:=q7;exact again I7 n7
   | brk=>obtain⟨σ7,H7,I7,q7⟩:=q7;exact⟨σ7,H7,I7.uB,q7⟩
   | ret v=>obtain⟨x7,σ7,H7,I7,r7,q7⟩:=q7;exact⟨x7,σ7,H7,I7.uB,r7,q7⟩
end
theorem jr{K:PySem.W.Frag}{a:Addr}{xs:List V}{g:TG}{tb:TS}{D:Ends}{σ:St}{H:Hp}(Pv:Nat→St→Hp→Prop)(h0:Pv 0 σ H)(hl:∀i σ H,i≤xs.length→Pv i σ H→hV K H a xs)
   (hs:∀i x σ H,xs[i]?=some x→Pv i σ H→g x σ H fun σ2 H2=>tb {D with nx:=Pv (i+1),ct:=Pv (i+1),bk:=D.nx} σ2 H2) (hd:∀σ H,Pv xs.length σ H→D.nx σ H) :
   ∃W:Nat→Nat→St→Hp→Prop,(∃m,W 0 m σ H)∧∀i m σ H,W i m σ H→
     ((Pc K a).stop i H∧D.nx σ H)∨((Pc K a).go i H∧∃N:St→Hp→Prop,(∀σ' H',N σ' H'→∃m',m'<m∧W (i+1) m' σ' H')∧∀x H',(Pc K a).Iu i H x H'→g x σ H' fun σ2 H2=>tb {D with nx:=N,ct:=N,bk:=D.nx} σ2 H2):=by
 refine⟨fun i m σ H=>m=xs.length-i∧i≤xs.length∧Pv i σ H,⟨xs.length,by simp,aaD _,h0⟩,?_⟩
 rintro i m σ H ⟨rfl,hi,p⟩
 have q:=hl i σ H hi p
 by_cases lu:i<xs.length
 · refine .inr ⟨⟨xs,xs[i],q,by simp[lu]⟩,Pv (i+1),fun σ' H' p'=>⟨xs.length-(i+1),by omega,rfl,lu,p'⟩,fun x H' y=>?_⟩
   obtain⟨e,y⟩:=y
   subst e
   exact hs i x σ _ (y xs q) p
 · have e:i=xs.length:=by omega
   subst e
   exact .inl ⟨⟨xs,q,UU _⟩,hd σ H p⟩
theorem lY{lo:Int}{n:Nat}{g:TG}{tb:TS}{D:Ends}{σ:St}{H:Hp}(Pv:Nat→St→Hp→Prop)(h0:Pv 0 σ H)
   (hs:∀i σ H,i<n→Pv i σ H→g (.int (lo+i)) σ H fun σ2 H2=>tb {D with nx:=Pv (i+1),ct:=Pv (i+1),bk:=D.nx} σ2 H2) (hd:∀σ H,Pv n σ H→D.nx σ H) :
   ∃W:Nat→Nat→St→Hp→Prop,(∃m,W 0 m σ H)∧∀i m σ H,W i m σ H→
     ((Mj lo n).stop i H∧D.nx σ H)∨((Mj lo n).go i H∧∃N:St→Hp→Prop,(∀σ' H',N σ' H'→∃m',m'<m∧W (i+1) m' σ' H')∧∀x H',(Mj lo n).Iu i H x H'→g x σ H' fun σ2 H2=>tb {D with nx:=N,ct:=N,bk:=D.nx} σ2 H2):=by
 refine⟨fun i m σ H=>m=n-i∧i≤n∧Pv i σ H,⟨n,by simp,aaD _,h0⟩,?_⟩
 rintro i m σ H ⟨rfl,hi,p⟩
 by_cases lu:i<n
 · refine .inr ⟨lu,Pv (i+1),fun σ' H' p'=>⟨n-(i+1),by omega,rfl,lu,p'⟩,fun x H' y=>?_⟩
   obtain⟨e,y⟩:=y
   subst e y
   exact hs i σ _ lu p
 · have e:i=n:=by omega
   subst e
   exact .inl ⟨UU _,hd σ H p⟩
abbrev R2:=V→V→Hp→VK→Prop
def xX(X:Cx)(f:Value→Value→Sem Value)(r:R2):Prop:=
 ∀(pins:List (Addr×Obj))(s:Shared)(σ:St)(H:Hp)(x y:V)(v u:Value)(Q:VK),Inv X pins σ H s→RelV x v→RelV y u→r x y H Q→
   wpAny (model X.prog X.w) X.A (f v u) (EP X pins σ Q) X.xe s
def Ur(X:Cx)(f:Value→Sem Value)(r:V→Hp→VK→Prop):Prop:=
 ∀(pins:List (Addr×Obj))(s:Shared)(σ:St)(H:Hp)(x:V)(v:Value)(Q:VK),Inv X pins σ H s→RelV x v→r x H Q→
   wpAny (model X.prog X.w) X.A (f v) (EP X pins σ Q) X.xe s
def uC(X:Cx)(f:Value)(r:List V→Hp→VK→Prop):Prop:=
 ∀(pins:List (Addr×Obj))(s:Shared)(σ:St)(H:Hp)(xs:List V)(us:List Value)(Q:VK),Inv X pins σ H s→Vals xs us→r xs H Q→
   wpAny (model X.prog X.w) X.A (call f us) (EP X pins σ Q) X.xe s
def Us(X:Cx)(r:V→Hp→(Bool→Hp→Prop)→Prop):Prop:=
 ∀(pins:List (Addr×Obj))(s:Shared)(σ:St)(H:Hp)(x:V)(v:Value)(Q:Bool→Hp→Prop),Inv X pins σ H s→RelV x v→r x H Q→
   wpAny (model X.prog X.w) X.A (truthy v) (TP X pins σ Q) X.xe s
def SY(r:R2)(ta tb:TE):TE:=fun σ H Q=>ta σ H fun x H1=>tb σ H1 fun y H2=>r x y H2 Q
def tUn(r:V→Hp→VK→Prop)(ta:TE):TE:=fun σ H Q=>ta σ H fun x H1=>r x H1 Q
def rI(C:Int→Int→Prop)(g:Int→Int→V):R2:=fun x y H Q=>∃i j,x=.int i∧y=.int j∧C i j∧Q (g i j) H
def Ml(g:Int→Int→V):R2:=fun x y H Q=>∃i j,x=.int i∧y=.int j∧Q (g i j) H
def rU(g:Int→V):V→Hp→VK→Prop:=fun x H Q=>∃i,x=.int i∧Q (g i) H
section
variable{X:Cx}{a b c:Expr}{ta tb tc:TE}{pos:Pos}
theorem M_(ha:PE X a ta)(hb:PE X b tb){pins:List (Addr×Obj)}{s:Shared}{σ:St}{H:Hp}{R:V→V→Hp→Prop}(I:Inv X pins σ H s)
   (h:ta σ H fun x H1=>tb σ H1 fun y H2=>R x y H2) {Q:Value→Shared→Prop} {f:Value→Value→Sem Value}
   (hf:∀v u s2 x y H2,Inv X pins σ H2 s2→RelV x v→RelV y u→R x y H2→wpAny (model X.prog X.w) X.A (f v u) Q X.xe s2) :
   wpAny (model X.prog X.w) X.A (eval a X.env) (fun v s₁=>wpAny (model X.prog X.w) X.A (eval b X.env) (fun u s₂=>wpAny (model X.prog X.w) X.A (f v u) Q X.xe s₂) X.xe s₁) X.xe s:=by
 refine iY (ha pins s σ H _ I h) fun v s1 ⟨x,H1,I1,r1,q1⟩=>?_
 refine iY (hb pins s1 σ H1 _ I1 q1) fun u s2 ⟨y,H2,I2,r2,q2⟩=>?_
 exact hf v u s2 x y H2 I2 r1 r2 q2
theorem gp{op:Operator}{r:R2}(ho:xX X (binaryOp op) r)(ha:PE X a ta)(hb:PE X b tb):PE X (.BinOp a op b pos) (SY r ta tb):=by
 intro pins s σ H Q I h
 exact wpAny_BinOp (M_ ha hb I h fun v u s2 x y H2 I2 rx ry q=>ho pins s2 σ H2 x y v u Q I2 rx ry q)
theorem wU{op:UnaryOp}{r:V→Hp→VK→Prop}(ho:Ur X (unaryOp op) r)(ha:PE X a ta):PE X (.UnaryOp op a pos) (tUn r ta):=by
 intro pins s σ H Q I h
 exact UnaryOp_ (iY (ha pins s σ H _ I h) fun v s1 ⟨x,H1,I1,r1,q1⟩=>ho pins s1 σ H1 x v Q I1 r1 q1)
theorem Ut{f:Value→Value→Sem Value}{C:Int→Int→Prop}{g:Int→Int→Int}
   (rule:∀(i j:Int)(t u:Tok)(s:Shared)(Q:Value→Shared→Prop)(E:Value→Shared→Prop),C i j→Q (.int (g i j) s.toks) {s with toks:=s.toks+1}→wpAny (model X.prog X.w) X.A (f (.int i t) (.int j u)) Q E s) :
   xX X f (rI C fun i j=>.int (g i j)):=by
 intro pins s σ H x y v u Q I rx ry h
 obtain⟨i,j,rfl,rfl,hc,q⟩:=h
 obtain⟨t,rfl⟩:=rx
 obtain⟨t',rfl⟩:=ry
 exact rule i j t t' s _ _ hc ⟨.int (g i j),H,I.tok _,⟨_,rfl⟩,q⟩
theorem Qc{f:Value→Value→Sem Value}{g:Int→Int→Int}
   (rule:∀(i j:Int)(t u:Tok)(s:Shared)(Q:Value→Shared→Prop)(E:Value→Shared→Prop),Q (.int (g i j) s.toks) {s with toks:=s.toks+1}→wpAny (model X.prog X.w) X.A (f (.int i t) (.int j u)) Q E s) :
   xX X f (Ml fun i j=>.int (g i j)):=by
 intro pins s σ H x y v u Q I rx ry h
 obtain⟨i,j,rfl,rfl,q⟩:=h
 obtain⟨t,rfl⟩:=rx
 obtain⟨t',rfl⟩:=ry
 exact rule i j t t' s _ _ ⟨.int (g i j),H,I.tok _,⟨_,rfl⟩,q⟩
theorem KY{f:Value→Value→Sem Value}{g:Int→Int→Bool}
   (rule:∀(i j:Int)(t u:Tok)(s:Shared)(Q:Value→Shared→Prop)(E:Value→Shared→Prop),Q (.bool (g i j)) s→wpAny (model X.prog X.w) X.A (f (.int i t) (.int j u)) Q E s) :
   xX X f (Ml fun i j=>.bl (g i j)):=by
 intro pins s σ H x y v u Q I rx ry h
 obtain⟨i,j,rfl,rfl,q⟩:=h
 obtain⟨t,rfl⟩:=rx
 obtain⟨t',rfl⟩:=ry
 exact rule i j t t' s _ _ ⟨.bl (g i j),H,I,rfl,q⟩
def Uu(i j:Int):Prop:=0<j∧j<1073741824
def Na(i j:Int):Prop:=(-(2 ^ 64)<i∧i<2 ^ 64)∨(-(2 ^ 64)<j∧j<2 ^ 64)
theorem Na.ok{i j:Int}(h:Na i j):IntMulOk i j:=by
 rcases h with⟨h1,h2⟩|⟨h1,h2⟩
 · exact .of_left (intBits_le_64 h1 h2)
 · exact .of_right (intBits_le_64 h1 h2)
theorem iJ:xX X (binaryOp .Add) (Ml fun i j=>.int (i+j)):=Qc fun _ _ _ _ _ _ _ q=>add_int q
theorem BL:xX X (binaryOp .Sub) (Ml fun i j=>.int (i-j)):=Qc fun _ _ _ _ _ _ _ q=>sub_int q
theorem qT:xX X (binaryOp .Mult) (rI Na fun i j=>.int (i*j)):=Ut fun _ _ _ _ _ _ _ hc q=>mul_int q hc.ok
theorem j1:xX X (binaryOp .FloorDiv) (rI Uu fun i j=>.int (i/j)):=Ut fun i j _ _ _ _ _ hc q=>by
 have h1:(0:Int)<j:=hc.1
 have h2:j<1073741824:=hc.2
 exact floordiv_int (by omega) (by rw[Int.fdiv_eq_ediv_of_nonneg i (by omega)];exact q) (.inl (PyProof.noPylong_small (by omega)))
theorem iS:xX X (binaryOp .Mod) (rI (fun _ j=>0<j) fun i j=>.int (i%j)):=Ut fun i j _ _ _ _ _ hc q=>by
 have h1:(0:Int)<j:=hc
 exact mod_int' (by omega) (by rw[Int.fmod_eq_emod_of_nonneg i (by omega)];exact q)
theorem unI{f:Value→Sem Value}{g:Int→Int}
   (rule:∀(i:Int)(t:Tok)(s:Shared)(Q:Value→Shared→Prop)(E:Value→Shared→Prop),Q (.int (g i) s.toks) {s with toks:=s.toks+1}→wpAny (model X.prog X.w) X.A (f (.int i t)) Q E s) :
   Ur X f (rU fun i=>.int (g i)):=by
 intro pins s σ H x v Q I rx h
 obtain⟨i,rfl,q⟩:=h
 obtain⟨t,rfl⟩:=rx
 exact rule i t s _ _ ⟨.int (g i),H,I.tok _,⟨_,rfl⟩,q⟩
theorem qU:Ur X (unaryOp .USub) (rU fun i=>.int (-i)):=unI fun _ _ _ _ _ q=>neg_int q
end
def Nb:V→V→Bool
 | .jv,.jv=>true|.jv,.int _=>true|.int _,.jv=>true|.jv,.bl _=>true|.bl _,.jv=>true|.jv,.str _=>true|.str _,.jv=>true
 | .int _,.int _=>true|.bl _,.bl _=>true|.str _,.str _=>true|.ES _,.ES _=>true
 | .int _,.str _=>true|.str _,.int _=>true|.bl _,.str _=>true|.str _,.bl _=>true
 | _,_=>false
def rEq:R2:=fun x y H Q=>Nb x y=true∧Q (.bl (decide (x=y))) H
def rNe:R2:=fun x y H Q=>Nb x y=true∧Q (.bl (!decide (x=y))) H
theorem Gb{i j:Int}:decide (V.int i=V.int j)=(i ==j):=by
 rw[abe]
 simp
theorem Iv{i j:Bool}:decide (V.bl i=V.bl j)=(i ==j):=by
 rw[abe]
 simp
theorem Gd{i j:Str}:decide (V.str i=V.str j)=(i ==j):=by
 rw[abe]
 simp
theorem Ge{i j:Array UInt8}:decide (V.ES i=V.ES j)=(i.toList ==j.toList):=by
 rw[abe]
 cases i
 cases j
 simp
section
variable{X:Cx}{a b c:Expr}{ta tb tc:TE}{pos:Pos}
theorem iP{pins:List (Addr×Obj)}{σ:St}{H:Hp}{s:Shared}{Q:VK}{k k':Bool}(I:Inv X pins σ H s)(q:Q (.bl k) H)(e:k=k'):EP X pins σ Q (.bool k') s:=by
 subst e
 exact⟨.bl k,H,I,rfl,q⟩
theorem jO:xX X (compareOp .Eq) rEq:=by
 intro pins s σ H x y v u Q I rx ry h
 obtain⟨hs,q⟩:=h
 cases x with
 | jv=>
   cases rx
   cases y with
   | jv=>cases ry;exact PySem.EqNone.eq_none_none (iP I q (by simp))
   | bl j=>cases ry;exact PySem.EqNone.eq_none_bool (iP I q (by simp))
   | int j=>obtain⟨t',rfl⟩:=ry;exact PySem.EqNone.eq_none_int (iP I q (by simp))
   | str j=>obtain⟨t',rfl⟩:=ry;exact PySem.EqNone.eq_none_str (iP I q (by simp))
   | _=>exact absurd (show false=true from hs) aad
 | bl i=>
   cases rx
   cases y with
   | jv=>cases ry;exact PySem.EqNone.eq_bool_none (iP I q (by simp))
   | bl j=>cases ry;exact eq_bool (iP I q Iv)
   | str j=>obtain⟨t',rfl⟩:=ry;exact PySem.EqMixed.eq_bool_str (iP I q (by simp))
   | _=>exact absurd (show false=true from hs) aad
 | int i=>
   obtain⟨t,rfl⟩:=rx
   cases y with
   | jv=>cases ry;exact PySem.EqNone.eq_int_none (iP I q (by simp))
   | int j=>obtain⟨t',rfl⟩:=ry;exact eq_int (iP I q Gb)
   | str j=>obtain⟨t',rfl⟩:=ry;exact PySem.EqMixed.eq_int_str (iP I q (by simp))
   | _=>exact absurd (show false=true from hs) aad
 | str i=>
   obtain⟨t,rfl⟩:=rx
   cases y with
   | jv=>cases ry;exact PySem.EqNone.eq_str_none (iP I q (by simp))
   | bl j=>cases ry;exact PySem.EqMixed.eq_str_bool (iP I q (by simp))
   | int j=>obtain⟨t',rfl⟩:=ry;exact PySem.EqMixed.eq_str_int (iP I q (by simp))
   | str j=>obtain⟨t',rfl⟩:=ry;exact eq_str (iP I q Gd)
   | _=>exact absurd (show false=true from hs) aad
 | ES i=>
   obtain⟨t,rfl⟩:=rx
   cases y with
   | ES j=>obtain⟨t',rfl⟩:=ry;exact PySem.W.eq_bytes (iP I q Ge)
   | _=>exact absurd (show false=true from hs) aad
 | _=>cases y<;>exact absurd (show false=true from hs) aad
theorem Mm:xX X (compareOp .NotEq) rNe:=by
 intro pins s σ H x y v u Q I rx ry h
 obtain⟨hs,q⟩:=h
 cases x with
 | jv=>
   cases rx
   cases y with
   | jv=>cases ry;exact PySem.EqNone.ne_none_none (iP I q (by simp))
   | bl j=>cases ry;exact PySem.EqNone.ne_none_bool (iP I q (by simp))
   | int j=>obtain⟨t',rfl⟩:=ry;exact PySem.EqNone.ne_none_int (iP I q (by simp))
   | str j=>obtain⟨t',rfl⟩:=ry;exact PySem.EqNone.ne_none_str (iP I q (by simp))
   | _=>exact absurd (show false=true from hs) aad
 | bl i=>
   cases rx
   cases y with
   | jv=>cases ry;exact PySem.EqNone.ne_bool_none (iP I q (by simp))
   | bl j=>cases ry;exact ne_bool (iP I q (congrArg not Iv))
   | str j=>obtain⟨t',rfl⟩:=ry;exact PySem.EqMixed.ne_bool_str (iP I q (by simp))
   | _=>exact absurd (show false=true from hs) aad
 | int i=>
   obtain⟨t,rfl⟩:=rx
   cases y with
   | jv=>cases ry;exact PySem.EqNone.ne_int_none (iP I q (by simp))
   | int j=>obtain⟨t',rfl⟩:=ry;exact ne_int (iP I q (congrArg not Gb))
   | str j=>obtain⟨t',rfl⟩:=ry;exact PySem.EqMixed.ne_int_str (iP I q (by simp))
   | _=>exact absurd (show false=true from hs) aad
 | str i=>
   obtain⟨t,rfl⟩:=rx
   cases y with
   | jv=>cases ry;exact PySem.EqNone.ne_str_none (iP I q (by simp))
   | bl j=>cases ry;exact PySem.EqMixed.ne_str_bool (iP I q (by simp))
   | int j=>obtain⟨t',rfl⟩:=ry;exact PySem.EqMixed.ne_str_int (iP I q (by simp))
   | str j=>obtain⟨t',rfl⟩:=ry;exact ne_str (iP I q (congrArg not Gd))
   | _=>exact absurd (show false=true from hs) aad
 | ES i=>
   obtain⟨t,rfl⟩:=rx
   cases y with
   | ES j=>obtain⟨t',rfl⟩:=ry;exact PySem.W.ne_bytes (iP I q (congrArg not Ge))
   | _=>exact absurd (show false=true from hs) aad
 | _=>cases y<;>exact absurd (show false=true from hs) aad
theorem Gf:xX X (compareOp .Lt) (Ml fun i j=>.bl (decide (i<j))):=KY fun _ _ _ _ _ _ _ q=>lt_int q
theorem Iw:xX X (compareOp .LtE) (Ml fun i j=>.bl (decide (i≤j))):=KY fun _ _ _ _ _ _ _ q=>le_int q
theorem Dm:xX X (compareOp .Gt) (Ml fun i j=>.bl (decide (j<i))):=KY fun _ _ _ _ _ _ _ q=>gt_int q
theorem Qd:xX X (compareOp .GtE) (Ml fun i j=>.bl (decide (j≤i))):=KY fun _ _ _ _ _ _ _ q=>ge_int q
theorem BM:xX X (compareOp .NotIn) (fun x y H Q=>∃i j,x=.str i∧y=.str j∧Q (.bl (!(!(Builtin.Str.occurrences j i 0 j.length 1).isEmpty))) H):=by
 intro pins s σ H x y v u Q I rx ry h
 obtain⟨i,j,rfl,rfl,q⟩:=h
 obtain⟨t,rfl⟩:=rx
 obtain⟨t',rfl⟩:=ry
 exact notIn_str (iP I q rfl)
theorem ij(b:Expr){op:CmpOp}(h:op≠.In:=by decide)(h2:op≠.NotIn:=by decide):behindInMarks op b=false:=by
 have e1:(op ==CmpOp.In)=false:=by cases op<;>first|rfl|exact absurd rfl h
 have e2:(op ==CmpOp.NotIn)=false:=by cases op<;>first|rfl|exact absurd rfl h2
 cases b<;>simp[behindInMarks,e1,e2]
theorem yr{op:CmpOp}{r:R2}(ho:xX X (compareOp op) r)(ha:PE X a ta)(hb:PE X b tb)(hm:behindInMarks op b=false):PE X (.Compare a [op] [b] pos) (SY r ta tb):=by
 intro pins s σ H Q I h
 exact wpAny_Compare1 (M_ ha hb I h fun v u s2 x y H2 I2 rx ry q=>ho pins s2 σ H2 x y v u Q I2 rx ry q) hm
def Mn(t:TE):TT:=fun σ H Q=>t σ H fun x H'=>∃k,x=.bl k∧Q k H'
theorem ib{op:CmpOp}{r:R2}(ho:xX X (compareOp op) r)(ha:PE X a ta)(hb:PE X b tb)(hm:behindInMarks op b=false):PT X (.Compare a [op] [b] pos) (Mn (SY r ta tb)):=by
 intro pins s σ H Q I h
 refine wpAny_isTrue_Compare1 (iY (ha pins s σ H _ I h) fun v s1 ⟨x,H1,I1,r1,q1⟩=>iY (hb pins s1 σ H1 _ I1 q1) fun u s2 ⟨y,H2,I2,r2,q2⟩=>
   iY (ho pins s2 σ H2 x y v u _ I2 r1 r2 q2) fun c s3 ⟨z,H3,I3,r3,k,e,q3⟩=>?_) hm
 subst e
 cases r3
 exact wpAny_truthy_bool ⟨H3,I3,q3⟩
def Nc(r r':R2)(ta tb tc:TE):TE:=fun σ H Q=>ta σ H fun x H1=>tb σ H1 fun y H2=>r x y H2 fun z H3=>∃k,z=.bl k∧
 (if k=true then tc σ H3 fun w' H4=>r' y w' H4 Q else Q (.bl false) H3)
theorem Dq{op Ve:CmpOp}{r r':R2}(ho:xX X (compareOp op) r)(nX:xX X (compareOp Ve) r')(ha:PE X a ta)(hb:PE X b tb)(hc:PE X c tc)
   (hm:lastMarks [op,Ve] [b,c]=false:=by with_unfolding_all rfl):PT X (.Compare a [op,Ve] [b,c] pos) (Mn (Nc r r' ta tb tc)):=by
 intro pins s σ H Q I h
 refine isTrue_chain (iY (ha pins s σ H _ I h) fun v s1 ⟨x,H1,I1,r1,q1⟩=>test_link (iY (hb pins s1 σ H1 _ I1 q1) fun u s2 ⟨y,H2,I2,r2,q2⟩=>
   iY (ho pins s2 σ H2 x y v u _ I2 r1 r2 q2) fun d s3 ⟨z,H3,I3,r3,k,e,q3⟩=>?_)) hm
 subst e
 cases r3
 refine wpAny_truthy_bool ?_
 cases k with
 | false=>
   obtain⟨k',e',q'⟩:=q3
   cases e'
   exact ite_ff ⟨H3,I3,q'⟩
 | true=>
   refine ite_tt (test_last (iY (hc pins s3 σ H3 _ I3 q3) fun w' s4 ⟨z',H4,I4,r4,q4⟩=>iY (nX pins s4 σ H4 y z' u w' _ I4 r2 r4 q4) fun d' s5 ⟨z2,H5,I5,r5,k2,e2,q5⟩=>?_))
   subst e2
   cases r5
   exact wpAny_truthy_bool ⟨H5,I5,q5⟩
def Qe(K:PySem.W.Frag)(x:V)(H:Hp)(k:Bool):Prop:=
 match x with
 | .jv=>k=false
 | .bl b=>k=b
 | .int i=>k=(i != 0)
 | .str y=>y.length≤sizeLine∧k=((y.length:Int) != 0)
 | .ES y=>y.size≤sizeLine∧k=((y.size:Int) != 0)
 | .ref p=>(∃xs,hV K H p xs∧k=!xs.isEmpty)∨(∃xs,vK K H p xs∧k=!xs.isEmpty)∨∃kvs,H p=some (.dK kvs)∧k=!kvs.isEmpty
 | _=>False
theorem EV{κ:Type}{kvs:List (κ×V)}{vs:List (κ×Value)}(r:KV kvs vs):(!vs.isEmpty)=!kvs.isEmpty:=by
 cases r<;>rfl
theorem yK{xs:List V}{hX:List Value}(r:Vals xs hX):(!hX.toArray.isEmpty)=!xs.isEmpty:=by
 cases r<;>simp
theorem tS:(sizeLine:Nat)<2 ^ 63:=by rw[sizeLine_eq];decide
theorem Nd:Us X (fun x H Q=>∃k,Qe X.K x H k∧Q k H):=by
 intro pins s σ H x v Q I rx h
 obtain⟨k,e,q⟩:=h
 have hl:=tS
 have hs:sizeLine=16777216:=sizeLine_eq
 cases x with
 | jv=>
   cases rx
   have e':k=false:=e
   subst e'
   exact truthy_none ⟨H,I,q⟩
 | bl b=>
   cases rx
   have e':k=b:=e
   subst e'
   exact wpAny_truthy_bool ⟨H,I,q⟩
 | int i=>
   obtain⟨t,rfl⟩:=rx
   have e':k=(i != 0):=e
   subst e'
   exact PySem.P.truthy_int ⟨H,I,q⟩
 | str y=>
   obtain⟨t,rfl⟩:=rx
   obtain⟨hy,e'⟩:y.length≤sizeLine∧k=((y.length:Int) != 0):=e
   subst e'
   exact PySem.P.truthy_str (by omega) ⟨H,I.tok _,q⟩
 | ES y=>
   obtain⟨t,rfl⟩:=rx
   obtain⟨hy,e'⟩:y.size≤sizeLine∧k=((y.size:Int) != 0):=e
   subst e'
   exact PySem.W.truthy_bytes (by omega) ⟨H,I.tok _,q⟩
 | ref p=>
   cases rx
   have e':(∃xs,hV X.K H p xs∧k=!xs.isEmpty)∨(∃xs,vK X.K H p xs∧k=!xs.isEmpty)∨∃kvs,H p=some (.dK kvs)∧k=!kvs.isEmpty:=e
   rcases e' with⟨xs,hx,e'⟩|⟨xs,hx,e'⟩|⟨kvs,hx,e'⟩
   · subst e'
     obtain⟨hX,r,pl,hz⟩:=I.list hx
     have hlen:=r.length
     exact wpAny_truthy_list pl.isList (by simp only [aae];omega) ⟨H,I.tok _,by rw[yK r];exact q⟩
   · subst e'
     obtain⟨hX,r,pl,hz⟩:=I.tuple hx
     have hlen:=r.length
     exact truthy_tuple pl (by simp only [aae];omega) ⟨H,I.tok _,by rw[yK r];exact q⟩
   · subst e'
     obtain⟨hz,hS,vs,r,m⟩:kvs.length≤sizeLine∧(p ==sysModules)=false∧∃vs,KV kvs vs∧s.heap.DictOf (i6 X.prog X.w) p vs:=I.iG p _ hx
     have hlen:kvs.length=vs.length:=Paired.length r
     exact wpAny_truthy_dict hS m (by omega) ⟨H,I.tok _,by rw[EV r];exact q⟩
 | _=>exact(show False from e).elim
theorem uD(ha:PE X a ta)(he:∀whole,isTrue a X.env whole=(do let v ←whole;standAt a.pos;holding [v] (truthy v))) :
   PT X a (fun σ H Q=>ta σ H fun x H'=>∃k,Qe X.K x H' k∧Q k H'):=by
 intro pins s σ H Q I h
 exact isTrue_plain (iY (ha pins s σ H _ I h) fun v s1 ⟨x,H1,I1,r1,q1⟩=>Nd pins s1 σ H1 x v Q I1 r1 q1) (he _)
theorem yL:xX X (binaryOp .Add) (fun x y H Q=>∃i j,x=.str i∧y=.str j∧i.length+j.length≤sizeLine∧Q (.str (i++j)) H):=by
 intro pins s σ H x y v u Q I rx ry h
 obtain⟨i,j,rfl,rfl,hz,q⟩:=h
 obtain⟨t,rfl⟩:=rx
 obtain⟨t',rfl⟩:=ry
 exact add_str (fun t' tk=>⟨.str (i++j),H,I.tok _,⟨_,rfl⟩,q⟩) hz
theorem vals1{x:V}{us:List Value}(r:Vals [x] us):∃u,us=[u]∧RelV x u:=by
 cases r with
 | cons r1 r2=>cases r2;exact⟨_,rfl,r1⟩
theorem vals2{x y:V}{us:List Value}(r:Vals [x,y] us):∃u w',us=[u,w']∧RelV x u∧RelV y w':=by
 cases r with
 | cons r1 r2=>
   cases r2 with
   | cons r3 r4=>cases r4;exact⟨_,_,rfl,r1,r3⟩
theorem Hc(hc:X.calm=true):uC X (.builtin "max") (fun xs H Q=>∃i j,xs=[.int i,.int j]∧Q (.int (if j>i then j else i)) H):=by
 intro pins s σ H xs us Q I r h
 obtain⟨i,j,rfl,q⟩:=h
 obtain⟨u,w',rfl,⟨t,rfl⟩,⟨t',rfl⟩⟩:=vals2 r
 refine max_two_ints (I.ok.hd hc) fun h' tk k=>⟨_,H,I.kept k,?_,q⟩
 by_cases hj:j>i
 · rw[aap hj,aap hj];exact⟨_,rfl⟩
 · rw[aak hj,aak hj];exact⟨_,rfl⟩
end
structure EW(h:Heap)(x dx C:Addr)(mA:Str→Option Value):Prop where
 obj:h.get? x=some (PySem.W.instObj C dx)
 ns:h.Ns1 dx mA
 ne:dx≠x
theorem Hd{h:Heap}{dx:Addr}{mA:Str→Option Value}(n:h.Ns1 dx mA):∃od,h.get? dx=some od∧∀name,PySem.W.lookIn name od=some (mA name):=by
 obtain⟨o,es,ep,ho,hd,hk,_,hm⟩:=n
 refine⟨o,ho,fun name=>?_⟩
 have e:=hm name
 unfold nsFind findBy at e
 rw[←Array.find?_toList] at e
 unfold PySem.W.lookIn
 rw[hd]
 dsimp only
 split
 · rename_i y q
   rw[q] at e
   exact congrArg some e
 · rename_i q
   rw[q] at e
   have a:es.toList.any (·.refKey)=false:=by
     rw[List.any_eq_false]
     intro y hy
     obtain⟨z,t,OC⟩:=hk y (Array.mem_toList_iff.mp hy)
     simp[DictEntry.refKey,OC]
   have a':¬es.toList.any (·.refKey)=true:=by rw[a];exact aad
   rw[aak a']
   exact congrArg some e
theorem EW.look{h:Heap}{x dx C:Addr}{mA:Str→Option Value}(I:EW h x dx C mA):∃od,PySem.W.InstAt h x (PySem.W.instObj C dx) C (some od)∧∀name,PySem.W.lookIn name od=some (mA name):=
 let ⟨od,ho,hl⟩:=Hd I.ns
 ⟨od,⟨I.obj,rfl,rfl,ho⟩,hl⟩
section
variable{prog:Program}{w:World}{A:Around}{E:Value→Shared→Prop}{s:Shared}{K:PySem.W.Frag}{x dx C f:Addr}{mA:Str→Option Value}{name:Str}{v:Value}
theorem get_map{expr:Bool}{Q:Value→Shared→Prop}(X:K.In s.heap)(I:EW s.heap x dx C mA)(hg:PySem.W.plainGet K C name=true)(hh:PySem.W.hasDictIn K C=true)
   (ha:PySem.W.findIn K (.ref C) name=some none) (hv:mA name=some v) (hv':PySem.W.handedIn v=true) (h:Q v {s with toks:=s.toks+1}) :
   wpAny (model prog w) A (getAttr (.ref x) name expr) Q E s:=by
 obtain⟨od,J,hl⟩:=I.look
 exact PySem.W.get_value X J (PySem.W.plainGet_of hg).1 (PySem.W.findObj_own hh ha rfl (by rw[hl,hv])) hv' h
theorem Iy{pl:Sem Bool}{Q:Value×List Value→Shared→Prop}(X:K.In s.heap)(I:EW s.heap x dx C mA)(hg:PySem.W.plainGet K C name=true)
   (hf:PySem.W.findIn K (.ref C) name=some (some (.ref f))) (ht:PySem.W.isFn K (.ref f)=true) (hv:mA name=none) (h:Q (.ref f,[.ref x]) s) :
   wpAny (model prog w) A (getMethod (.ref x) name pl) Q E s:=by
 obtain⟨od,J,hl⟩:=I.look
 exact PySem.W.method_fn X J (PySem.W.plainGet_of hg).1 (PySem.W.plainGet_of hg).2 hf (beq_iff_eq.mp ht) (by show(PySem.W.lookIn name od).map (·.isSome)=some false;rw[hl,hv];rfl) h
theorem KZ{ns:List Str}{Q:Unit→Shared→Prop}(X:K.In s.heap)(I:EW s.heap x dx C mA)
   (hs:PySem.W.findIn K (.ref C) "__setattr__"=some (some (.builtin "object.__setattr__"))) (hp:PySem.W.plainOver K C=true) (ht:PySem.W.takerIn K C name=some none) (hh:PySem.W.hasDictIn K C=true)
   (hw:PySem.Within mA ns) (hsz:ns.length≤sizeLine)
   (h:∀h',EW h' x dx C (fun y=>if y=name then some v else mA y)→Heap.SameBut dx s.heap h'→Q () {s with heap:=h',toks:=s.toks+2}) :
   wpAny (model prog w) A (setAttr (.ref x) name v) Q E s:=by
 obtain⟨od,J,hl⟩:=I.look
 refine PySem.W.set_plain X J hs (PySem.W.osa_open (s:={s with toks:=s.toks+1}) (r:=none) X J hp ht fun b=>?_)
 obtain⟨cd,hc,U_⟩:=PySem.W.any_some hh
 have hx:s.heap.get? x=some ⟨.ref C,some dx,.plain,#[]⟩:=I.obj
 refine wpAny_bind (wpAny_pure (wpAny_bind (wpAny_bind (wpAny_loadPart hx (wpAny_bind (PySem.W.Looks.here (s:={s with toks:=s.toks+1}) (PySem.W.looks_clsIn X hc) ?_))))))
 rw[U_]
 refine wpAny_pure (a:=some dx) (wpAny_bind (wpAny_pure (wpAny_bind ?_)))
 refine wpAny_nsSet1 (s:={s with toks:=s.toks+1}) I.ns fun h' OD Im=>?_
 obtain⟨oD,esD,epD,hoD,hdD,hcD⟩:=OD.count (PySem.Within.cons name v hw)
 refine wpAny_bind (wpAny_lookBehind hoD (by rw[hdD];exact pastItsLine_dict (aac hcD (by rw[XT];omega))) ?_)
 exact wpAny_pure (h _ ⟨(Im.2 _ (Ne.symm I.ne)).trans I.obj,OD,I.ne⟩ Im)
theorem Iz{R:Result→Shared→Prop}{vs:List Value}{kw:List (Str×Value)}(X:K.In s.heap)(hm:PySem.W.makesIn K C=true)
   (hi:PySem.W.findIn K (.ref C) "__init__"=some (some (.ref f))) (hf:PySem.W.typeIn K (.ref f)=some (.type "function"))
   (h:codeAny (model prog w) (A.under (.builtin "type.__call__" ⟨.ref C::vs,kw⟩)) (.call (.ref f) ⟨.ref (s.heap.objs.size+1)::vs,kw⟩) (PySem.W.InitBack (s.heap.objs.size+1) R)
     {s with heap:=(s.heap.push PySem.W.emptyDict).push (PySem.W.instObj C s.heap.objs.size)}) :
   codeAny (model prog w) A (.call (.ref C) ⟨vs,kw⟩) R s:=by
 obtain⟨hh,g,d,t,os⟩:=s
 exact PySem.W.make_core (PySem.W.makes_of X hm) (PySem.W.looks_findIn X hi) (fun self=>PySem.W.bind_fn X self hf) (.inl rfl) h
end
def jx(f:Str)(v:V):List (Str×V)→List (Str×V)
 | []=>[(f,v)]
 | (g,x)::r=>if g=f then(g,v)::r else(g,x)::jx f v r
theorem wV(f g:Str)(v:V):∀fs:List (Str×V),(jx f v fs).lookup g=if g=f then some v else fs.lookup g
 | []=>by
   show List.lookup g [(f,v)]=_
   by_cases h:g=f
   · have hb:(g ==f)=true:=beq_iff_eq.mpr h
     simp only [List.lookup,hb,aap h]
   · have hb:(g ==f)=false:=beq_eq_false_iff_ne.mpr h
     simp only [List.lookup,hb,aak h]
 | (k,x)::r=>by
   have ih:=wV f g v r
   rw[show jx f v ((k,x)::r)=(if k=f then(k,v)::r else(k,x)::jx f v r) from rfl]
   by_cases hk:k=f
   · rw[aap hk]
     by_cases h:g=k
     · have hb:(g ==k)=true:=beq_iff_eq.mpr h
       simp only [List.lookup,hb,aap (h.trans hk)]
     · have hb:(g ==k)=false:=beq_eq_false_iff_ne.mpr h
       simp only [List.lookup,hb,aak (fun e:g=f=>h (e.trans hk.symm))]
   · rw[aak hk]
     by_cases h:g=k
     · have hb:(g ==k)=true:=beq_iff_eq.mpr h
       simp only [List.lookup,hb,aak (fun e:g=f=>hk (h.symm.trans e))]
     · have hb:(g ==k)=false:=beq_eq_false_iff_ne.mpr h
       simp only [List.lookup,hb]
       exact ih
theorem vN(f:Str)(v:V):∀fs:List (Str×V),f∈(jx f v fs).map (·.1)∧∀g,g∈fs.map (·.1)→g∈(jx f v fs).map (·.1)
 | []=>⟨by simp[jx],fun g h=>by simp at h⟩
 | (k,x)::r=>by
   obtain⟨i1,i2⟩:=vN f v r
   rw[show jx f v ((k,x)::r)=(if k=f then(k,v)::r else(k,x)::jx f v r) from rfl]
   by_cases hk:k=f
   · rw[aap hk]
     subst hk
     exact⟨by simp,fun g h=>by simpa using h⟩
   · rw[aak hk]
     refine⟨?_,fun g h=>?_⟩
     · rw[aao]
       exact aag _ i1
     · rw[aao] at h ⊢
       rcases XU.mp h with e|e
       · exact XU.mpr (.inl e)
       · exact aag _ (i2 g e)
theorem wW(f:Str)(v:V):∀fs:List (Str×V),(jx f v fs).length≤fs.length+1
 | []=>by simp[jx]
 | (k,x)::r=>by
   have ih:=wW f v r
   rw[show jx f v ((k,x)::r)=(if k=f then(k,v)::r else(k,x)::jx f v r) from rfl]
   by_cases hk:k=f
   · rw[aap hk,XT,XT];omega
   · rw[aak hk,XT,XT];omega
theorem o5.some_of{v:V}{o:Option Value}(r:o5 (some v) o):∃u,o=some u∧RelV v u:=by
 cases o with
 | none=>exact(show False from r).elim
 | some u=>exact⟨u,rfl,r⟩
theorem o5.none_of{o:Option Value}(r:o5 none o):o=none:=by
 cases o with
 | none=>rfl
 | some u=>exact(show False from r).elim
theorem He{v:V}{u:Value}(r:RelV v u):PySem.W.handedIn u=true:=by
 cases v with
 | jv=>cases (show u=Value.none from r);rfl
 | bl b=>cases (show u=Value.bool b from r);rfl
 | int i=>obtain⟨t,e⟩:=(show ∃t,u=Value.int i t from r);cases e;rfl
 | str x=>obtain⟨t,e⟩:=(show ∃t,u=Value.str x t from r);cases e;rfl
 | ES b=>obtain⟨t,e⟩:=(show ∃t,u=Value.bytes b t from r);cases e;rfl
 | PZ b=>obtain⟨t,e⟩:=(show ∃t,u=Value.float b t from r);cases e;rfl
 | ref a=>cases (show u=Value.ref a from r);rfl
 | ty n=>cases (show u=Value.type n from r);rfl
section
variable{P:Program}{w:World}{H H':Hp}{h h':Heap}{a C dx:Addr}{fs fs':List (Str×V)}
theorem BN(iG:pN P w H h)(e:H a=some (.ins C dx fs)):∃mA,EW h a dx C mA∧(∀f,o5 (fs.lookup f) (mA f))∧PySem.Within mA (fs.map (·.1))∧fs.length≤1000∧H dx=some (.own a):=by
 obtain⟨d,z,ne,ob,mA,n,r,q⟩:=(show i9 P w H h a (.ins C dx fs) from iG a _ e)
 exact⟨mA,⟨ob,n,ne⟩,r,q,z,d⟩
end
structure EY(K:PySem.W.Frag)(C:Addr):Prop where
 pg:PySem.W.plainGet K C Str.empty=true
 hd:PySem.W.hasDictIn K C=true
 po:PySem.W.plainOver K C=true
 sa:PySem.W.findIn K (.ref C) "__setattr__"=some (some (.builtin "object.__setattr__"))
theorem EY.get{K:PySem.W.Frag}{C:Addr}(c:EY K C)(f:Str):PySem.W.plainGet K C f=true:=c.pg
def jR(K:PySem.W.Frag)(C:Addr)(f:Str):Prop:=PySem.W.findIn K (.ref C) f=some none
theorem jR.Qf{K:PySem.W.Frag}{C:Addr}{f:Str}(n:jR K C f):PySem.W.takerIn K C f=some none:=by
 unfold PySem.W.takerIn
 rw[show PySem.W.findIn K (.ref C) f=some none from n]
 rfl
structure Meth(K:PySem.W.Frag)(C:Addr)(m:Str)(f:Addr):Prop where
 at_:PySem.W.findIn K (.ref C) m=some (some (.ref f))
 fn:PySem.W.isFn K (.ref f)=true
 kp:PySem.W.keepIn K (.ref f)=true
section
variable{X:Cx}{pins:List (Addr×Obj)}{σ:St}{H:Hp}{s:Shared}{a C dx:Addr}{fs:List (Str×V)}{f:Str}{v:V}{A:Around}{E:Value→Shared→Prop}
theorem EZ{b:Bool}{Q:Value→Shared→Prop}(I:Inv X pins σ H s)(e:H a=some (.ins C dx fs))(c:EY X.K C)(n:jR X.K C f)(l:fs.lookup f=some v)
   (h:∀u s',Inv X pins σ H s'→RelV v u→Q u s'):wpAny (model X.prog X.w) A (getAttr (.ref a) f b) Q E s:=by
 obtain⟨mA,O,r,_,_,_⟩:=BN I.iG e
 obtain⟨u,hu,ru⟩:=o5.some_of (v:=v) (o:=mA f) (by rw[←l];exact r f)
 exact get_map I.Az O (c.get f) c.hd n hu (He ru) (h u _ (I.tok _) ru)
theorem yM{m:Str}{g:Addr}{pl:Sem Bool}{Q:Value×List Value→Shared→Prop}(I:Inv X pins σ H s)(e:H a=some (.ins C dx fs))(c:EY X.K C)(k:Meth X.K C m g)(l:fs.lookup m=none)
   (h:Q (.ref g,[.ref a]) s):wpAny (model X.prog X.w) A (getMethod (.ref a) m pl) Q E s:=by
 obtain⟨mA,O,r,_,_,_⟩:=BN I.iG e
 have hn:mA m=none:=o5.none_of (by rw[←l];exact r m)
 exact Iy I.Az O (c.get m) k.at_ k.fn hn h
theorem E1{y:V}{u:Value}{Q:Unit→Shared→Prop}(I:Inv X pins σ H s)(e:H a=some (.ins C dx fs))(c:EY X.K C)(n:jR X.K C f)(hl:fs.length<1000)(ry:RelV y u)
   (h:∀s',Inv X pins σ (upd H a (.ins C dx (jx f y fs))) s'→Q () s'):wpAny (model X.prog X.w) A (setAttr (.ref a) f u) Q E s:=by
 obtain⟨mA,O,r,wi,_,ho⟩:=BN I.iG e
 have hz:(fs.map (·.1)).length≤sizeLine:=by rw[RF,sizeLine_eq];omega
 refine KZ I.Az O c.sa c.po n.Qf c.hd wi hz fun h' O' sb=>h _ ?_
 have hd:∃o,h'.get? dx=some o:=let ⟨o,_,_,e',_⟩:=O'.ns;⟨o,e'⟩
 refine I.write (x:=a) (e:=dx) (by rw[e];exact True.intro) (.inr ho) (fun b q hb z=>(sb.2 b hb).trans z) hd ?_
 refine⟨by rw[de O.ne];exact ho,?_,O.ne,O'.obj,_,O'.ns,fun g=>?_,fun g hg=>?_⟩
 · have:=wW f y fs;omega
 · show o5 ((jx f y fs).lookup g) (if g=f then some u else mA g)
   rw[wV]
   by_cases q:g=f
   · rw[aap q,aap q];exact ry
   · rw[aak q,aak q];exact r g
 · by_cases q:g=f
   · rw[q];exact(vN f y fs).1
   · refine(vN f y fs).2 g (wi g fun z=>hg ?_)
     show(if g=f then some u else mA g)=none
     rw[aak q];exact z
theorem Inv.made(I:Inv X pins σ H s):Inv X pins σ (upd (upd H s.heap.objs.size (.own (s.heap.objs.size+1))) (s.heap.objs.size+1) (.ins C s.heap.objs.size []))
   {s with heap:=(s.heap.push PySem.W.emptyDict).push (PySem.W.instObj C s.heap.objs.size)}:=by
 have e1:(s.heap.push PySem.W.emptyDict).get? s.heap.objs.size=some PySem.W.emptyDict:=Heap.get?_push_size s.heap rfl
 have e2:((s.heap.push PySem.W.emptyDict).push (PySem.W.instObj C s.heap.objs.size)).get? (s.heap.objs.size+1)=some (PySem.W.instObj C s.heap.objs.size):=by
   have:=Heap.get?_push_size (s.heap.push PySem.W.emptyDict) (o:=PySem.W.instObj C s.heap.objs.size) rfl
   rwa [Heap.size_push] at this
 have e3:(s.heap.push PySem.W.emptyDict).Ns s.heap.objs.size (fun _=>none):=⟨PySem.W.emptyDict,#[],_,e1,rfl,(fun e he=>absurd he (by simp)),fun _=>rfl⟩
 have I1:=I.laid (a:=s.heap.objs.size) (o:=.own (s.heap.objs.size+1)) (h':=s.heap.push PySem.W.emptyDict) (t':=s.toks) (fun b u q=>Heap.get?_push_of_some _ q) (UU _) ⟨_,e1⟩
 refine I1.laid (a:=s.heap.objs.size+1) (o:=.ins C s.heap.objs.size []) (t':=s.toks) (fun b u q=>Heap.get?_push_of_some _ q) (Nat.le_of_eq (Heap.size_push _ _)) ?_
 have ne:s.heap.objs.size≠s.heap.objs.size+1:=aaM (abJ _)
 refine⟨by rw[de ne,b_],aaD _,ne,e2,fun _=>none,(Heap.Ns1.of_empty e3).at fun o q=>Heap.get?_push_of_some _ q,fun _=>True.intro,fun y hy=>absurd rfl hy⟩
theorem K0{prog:Program}{w:World}{env:Env}{e:Expr}{f:Str}{pos:Pos}{s:Shared}{Q:Value→Shared→Prop}(hb:attributeBase e f env (eval e env)=eval e env)
   (h:wpAny (model prog w) A (eval e env) (fun o s₁=>wpAny (model prog w) A (getAttr o f true) Q E s₁) E s):wpAny (model prog w) A (eval (.Attribute e f pos) env) Q E s:=
 Attribute_any_ h (by rw[arm_eval_Attribute,hb])
end
def Uv(K:PySem.W.Frag)(ta:TE)(f:Str):TE:=fun σ H Q=>ta σ H fun x H1=>∃a C dx fs v,x=.ref a∧H1 a=some (.ins C dx fs)∧EY K C∧jR K C f∧fs.lookup f=some v∧Q v H1
def Uw(K:PySem.W.Frag)(ta tv:TE)(f:Str):TS:=fun D σ H=>tv σ H fun y H1=>ta σ H1 fun x H2=>∃a C dx fs,x=.ref a∧H2 a=some (.ins C dx fs)∧EY K C∧jR K C f∧fs.length<1000∧
 D.nx σ (upd H2 a (.ins C dx (jx f y fs)))
section
variable{X:Cx}{o e value:Expr}{f:Str}{pos pos' OE:Pos}{ta tv:TE}
theorem gz(he:PE X e ta)(hb:attributeBase e f X.env (eval e X.env)=eval e X.env):PE X (.Attribute e f pos) (Uv X.K ta f):=by
 intro pins s σ H Q I h
 refine K0 hb (iY (he pins s σ H _ I h) fun u s1 ⟨x,H1,I1,rx,a,C,dx,fs,v,ex,ea,c,n,l,q⟩=>?_)
 subst ex
 obtain rfl:u=Value.ref a:=rx
 exact EZ I1 ea c n l fun u' s2 I2 ru=>⟨v,H1,I2,ru,q⟩
theorem ly(ha:PE X o ta)(hv:PE X value tv)(hs:swapsWith value (some (.Attribute o f pos')) pos.line X.env=pure false):PS X (.Assign [.Attribute o f pos'] value pos) (Uw X.K ta tv f):=by
 intro pins s σ H D I h
 refine plainObj_wpAny_Assign_Attribute (iY (hv pins s σ H _ I h) fun u s1 ⟨y,H1,I1,ry,q⟩=>iY (ha pins s1 σ H1 _ I1 q) fun ov s2 ⟨x,H2,I2,rx,a,C,dx,fs,ex,ea,c,n,l,q2⟩=>?_) hs
 subst ex
 obtain rfl:ov=Value.ref a:=rx
 exact E1 I2 ea c n l ry fun s3 I3=>⟨σ,_,I3,q2⟩
end
section
variable{X:Cx}{pins:List (Addr×Obj)}{σ:St}{H:Hp}{s:Shared}{A:Around}{E:Value→Shared→Prop}{Q:Value→Shared→Prop}{c:Value}{b:Bool}
end
structure ku(k:Nat)(A:Around):Prop where
 hd:A.handled=none
 dp:A.depth+3*k+5<recursionLimit
 un:A.units+16*k+200<cLine
theorem ku.mono{j k:Nat}{A:Around}(r:ku k A)(h:j≤k):ku j A:=⟨r.hd,by have:=r.dp;omega,by have:=r.un;omega⟩
theorem ku.deeper{k:Nat}{A:Around}(r:ku (k+1) A)(env:Env):ku k (A.deeper env):=
 ⟨r.hd,by have:=r.dp;show A.depth+1+3*k+5<_;omega,by have:=r.un;show A.units+3+16*k+200<_;omega⟩
theorem E2{A:Around}{C:Addr}{us:List Value}{kw:List (Str×Value)}:(A.under (.builtin "type.__call__" ⟨.ref C::us,kw⟩)).depth=A.depth+1:=by
 first|rfl|simp[Around.under,Code.weight,Code.isCreation,Code.isGuard,Code.isCaller,Code.frames,Code.isFrame,guardIds]
theorem E3{A:Around}{C:Addr}{us:List Value}{kw:List (Str×Value)}:(A.under (.builtin "type.__call__" ⟨.ref C::us,kw⟩)).units=A.units+1:=by
 first|rfl|simp[Around.under,Code.cUnits,Code.frames,Code.isFrame]
theorem ku.make{k:Nat}{A:Around}(r:ku (k+1) A)(C:Addr)(us:List Value)(kw:List (Str×Value)):ku k (A.under (.builtin "type.__call__" ⟨.ref C::us,kw⟩)):=
 ⟨r.hd,by have:=r.dp;rw[E2];omega,by have:=r.un;rw[E3];omega⟩
theorem ku.depth{k:Nat}{A:Around}(r:ku k A):A.depth<recursionLimit:=by have:=r.dp;omega
theorem ku.units{k:Nat}{A:Around}(r:ku k A):A.units+64<cLine:=by have:=r.un;omega
def Nf:TA:=fun _ H Q=>Q [] H
def Qg(ta:TE)(tr:TA):TA:=fun σ H Q=>ta σ H fun x H1=>tr σ H1 fun xs H2=>Q (x::xs) H2
section
variable{X:Cx}{e:Expr}{es:List Expr}{te:TE}{t:TA}{pos:Pos}
theorem d_:PA X [] Nf:=fun _ _ _ _ H Q I h=>Calls.spliced_nil ⟨[],H,I,.nil,h⟩
theorem a_(ha:PE X e te)(hr:PA X es t)(hs:starEach (e::es) X.env=(false,eval e X.env)::starEach es X.env:=by rfl):PA X (e::es) (Qg te t):=by
 intro pos pins s σ H Q I h
 rw[hs]
 show wpAny _ _ (spliced ((false,eval e X.env)::backTo pos (starEach es X.env))) _ _ s
 refine Calls.spliced_cons (iY (ha pins s σ H _ I h) fun u s1 ⟨x,H1,I1,r1,q1⟩=>?_)
 exact iY (hr pos pins s1 σ H1 _ I1 q1) fun us s2 ⟨xs,H2,I2,r2,q2⟩=>⟨x::xs,H2,I2,.cons r1 r2,q2⟩
def Ux(t:TA):TE:=fun σ H Q=>t σ H fun xs H1=>xs.length≤sizeLine∧∀p,H1 p=none→Q (.ref p) (upd H1 p (.tup xs))
def Uy(t:TA):TE:=fun σ H Q=>t σ H fun xs H1=>xs.length≤sizeLine∧∀p,H1 p=none→Q (.ref p) (upd H1 p (.lst xs))
theorem BO{x1}(h:PA X es t):PE X (.Tuple es x1 pos) (Ux t):=by
 intro pins s σ H Q I hq
 refine wpAny_Tuple_spliced (iY (h pos pins s σ H _ I hq) fun us s1 ⟨xs,H1,I1,r,z,q⟩=>⟨by rw[←r.length];exact z,?_⟩)
 have hf:H1 s1.heap.objs.size=none:=I1.iG.fresh (UU _)
 refine⟨.ref s1.heap.objs.size,upd H1 s1.heap.objs.size (.tup xs),I1.laid (t':=s1.toks) (fun b u e=>Heap.get?_push_of_some _ e) (UU _) ?_,rfl,q _ hf⟩
 exact⟨z,us,r,⟨_,Heap.get?_push_size _ rfl,rfl,_,rfl⟩⟩
theorem iC(h:PA X es t):PE X (.List es pos) (Uy t):=by
 intro pins s σ H Q I hq
 refine wpAny_List_spliced (iY (h pos pins s σ H _ I hq) fun us s1 ⟨xs,H1,I1,r,z,q⟩=>⟨by rw[←r.length];exact z,?_⟩)
 have hf:H1 s1.heap.objs.size=none:=I1.iG.fresh (UU _)
 refine⟨.ref s1.heap.objs.size,upd H1 s1.heap.objs.size (.lst xs),I1.laid (t':=s1.toks) (fun b u e=>Heap.get?_push_of_some _ e) (UU _) ?_,rfl,q _ hf⟩
 exact⟨z,us,0,r,Heap.get?_push_size _ rfl⟩
end
abbrev Sp:=List V→Hp→VK→XK→Prop
abbrev E4:=List Env→Hp→Shared→XK→Value→Shared→Prop
structure Dr(P:Program)(w:World)(K:PySem.W.Frag)(mg:Str→Option Value)(base:Heap)(A:Around)(outer:List Env)(s:Shared)(H:Hp):Prop where
 frames:A.frames=some outer
 mod:Mod K mg base
 bs:∀b o,base.get? b=some o→s.heap.get? b=some o∧H b=none
 G9:base.objs.size≤s.heap.objs.size
 qP:s.heap.FunFrames base outer
 Ij:∀b∈qO outer,H b=none
 iG:pN P w H s.heap
 bare:AllBare s.gens
def CE(outer:List Env)(P:Program)(w:World)(H:Hp)(s:Shared)(Q:VK)(u:Value)(s':Shared):Prop:=
 ∃v H',s'.os=s.os∧AllBare s'.gens∧Un (qO outer) [] H H' s.heap s'.heap∧pN P w H' s'.heap∧RelV v u∧Q v H'
def CR(CX:E4)(outer:List Env)(P:Program)(w:World)(H:Hp)(s:Shared)(Q:VK)(E:XK)(r:Result)(s':Shared):Prop:=
 match r with
 | .ok (.ret u)=>CE outer P w H s Q u s'
 | .ok _=>False
 | .error e=>CX outer H s E e s'
structure ie(P:Program)(w:World)(K:PySem.W.Frag)(mg:Str→Option Value)(base:Heap)(CX:E4)(k:Nat)(f:Addr)(fd:FuncData)(ps:List Str)(sp:Sp):Prop where
 len:∀vs H Q E,sp vs H Q E→vs.length=ps.length
 run:∀(A:Around)(outer:List Env)(s:Shared)(H:Hp)(args:Args)(us:List Value)(vs:List V)(Q:VK)(E:XK),ku k A→Dr P w K mg base A outer s H→BindsTo s fd args (ps.zip us)→Vals vs us→sp vs H Q E→
   codeAny (model P w) A (.call (.ref f) args) (CR CX outer P w H s Q E) s
theorem ie.mono{P:Program}{w:World}{K:PySem.W.Frag}{mg:Str→Option Value}{base:Heap}{CX:E4}{j k:Nat}{f:Addr}{fd:FuncData}{ps:List Str}{sp:Sp}(F:ie P w K mg base CX j f fd ps sp)(h:j≤k) :
   ie P w K mg base CX k f fd ps sp:=⟨F.len,fun A outer s H args us vs Q E hr=>F.run A outer s H args us vs Q E (hr.mono h)⟩
theorem Dr.make{P:Program}{w:World}{K:PySem.W.Frag}{mg:Str→Option Value}{base:Heap}{A:Around}{outer:List Env}{s:Shared}{H:Hp}(e:Dr P w K mg base A outer s H)(C:Addr)(us:List Value)(kw:List (Str×Value)) :
   Dr P w K mg base (A.under (.builtin "type.__call__" ⟨.ref C::us,kw⟩)) outer s H:=⟨by first|exact e.frames|(simpa[Around.under,Code.envs,Code.isFrame,pushEnvs] using e.frames),e.mod,e.bs,e.G9,e.qP,e.Ij,e.iG,e.bare⟩
section
variable{X:Cx}{pins:List (Addr×Obj)}{σ:St}{H:Hp}{s s':Shared}
theorem Inv.K1(I:Inv X pins σ H s):Dr X.prog X.w X.K X.mg X.base X.A X.stack s H:=
 ⟨I.ok.frames,I.ok.mod,I.bs,aac I.ok.G9 I.sz,I.stack,I.yp,I.iG,I.bare⟩
theorem Inv.after{Q:VK}{u:Value}(I:Inv X pins σ H s)(h:CE X.stack X.prog X.w H s Q u s'):EP X pins σ Q u s':=by
 obtain⟨v,H',os,bare,un,iG,r,q⟩:=h
 obtain⟨hh,g,d,t,os'⟩:=s'
 obtain rfl:os'=s.os:=os
 exact⟨v,H',I.call (h':=hh) (g':=g) (d':=d) (t':=t) (ch:=[]) un iG bare (fun b z=>absurd z (by simp)),r,q⟩
end
def Ds(sp:Sp)(uy:List V)(E:XK)(t:TA):TE:=fun σ H Q=>t σ H fun vs H1=>sp (vs++uy) H1 Q E
def Gg(C:Addr)(m:Str)(sp:Sp)(uy:List V)(E:XK)(ta:TE)(t:TA):TE:=fun σ H Q=>ta σ H fun x H1=>∃a dx fs,x=.ref a∧H1 a=some (.ins C dx fs)∧fs.lookup m=none∧
 t σ H1 fun vs H2=>sp (x::(vs++uy)) H2 Q E
def Mo(C:Addr)(sp:Sp)(uy:List V)(E:XK)(t:TA):TE:=fun σ H Q=>t σ H fun vs H1=>∀x dx,H1 x=none→H1 dx=none→dx≠x→
 sp (.ref x::(vs++uy)) (upd (upd H1 dx (.own x)) x (.ins C dx [])) (fun v H2=>v=.jv∧Q (.ref x) H2) E
def Binds(K:PySem.W.Frag)(fd:FuncData)(ps:List Str)(ds:List Value):Prop:=
 ∀(s:Shared)(us:List Value),K.In s.heap→(us++ds).length=ps.length→BindsTo s fd ⟨us,[]⟩ (ps.zip (us++ds))
theorem Binds.all{K:PySem.W.Frag}{fd:FuncData}{ps:List Str}(h:∀us:List Value,us.length=ps.length→bindArgs fd ⟨us,[]⟩=pure (ps.zip us)):Binds K fd ps []:=fun s us _ hl=>by
 rw[aaB] at hl ⊢
 exact .of_eq (h us hl)
def Passes(CX:E4)(X:Cx)(E:XK):Prop:=∀(pins:List (Addr×Obj))(σ:St)(H:Hp)(s:Shared)(e:Value)(s':Shared),Inv X pins σ H s→CX X.stack H s E e s'→X.xe e s'
section
variable{X:Cx}{CX:E4}{k:Nat}{f C:Addr}{fd:FuncData}{ps:List Str}{sp:Sp}{uy:List V}{ds:List Value}{E:XK}{x m:Str}{p pos apos:Pos}{e o:Expr}{es:List Expr}{ta:TE}{t:TA}
theorem E5{pins:List (Addr×Obj)}{σ:St}{H:Hp}{s:Shared}{Q:VK}{us:List Value}{vs:List V}(F:ie X.prog X.w X.K X.mg X.base CX k f fd ps sp)(hr:ku k X.A)(hb:Binds X.K fd ps ds)(hd:Vals uy ds)(hx:Passes CX X E)
   (I:Inv X pins σ H s) (r:Vals vs us) (h:sp (vs++uy) H Q E):wpAny (model X.prog X.w) X.A (call (.ref f) us) (EP X pins σ Q) X.xe s:=by
 have r2:Vals (vs++uy) (us++ds):=r.append hd
 have hl:(us++ds).length=ps.length:=by rw[←r2.length];exact F.len _ _ _ _ h
 refine wpAny_call (codeAny_mono (F.run X.A X.stack s H ⟨us,[]⟩ (us++ds) (vs++uy) Q E hr I.K1 (hb s us I.Az hl) r2 h) fun r s' hq=>?_)
 cases r with
 | error e=>exact hx pins σ H s e s' I hq
 | ok fl=>
   cases fl with
   | ret u=>exact I.after hq
   | next=>exact False.elim hq
   | brk=>exact False.elim hq
   | cont=>exact False.elim hq
theorem uE(F:ie X.prog X.w X.K X.mg X.base CX k f fd ps sp)(hr:ku k X.A)(hg:Gl X x)(hm:X.mg x=some (.ref f))(hk:PySem.W.keepIn X.K (.ref f)=true)(hb:Binds X.K fd ps ds)(hd:Vals uy ds)(hx:Passes CX X E)
   (ha:PA X (e::es) t) (AW:(x ==("__debug__":Str))=false:=by decide) (he:starEach (e::es) X.env=(false,eval e X.env)::starEach es X.env:=by rfl) (oW:(backTo pos (starEach es X.env)).any (·.1)=false:=by rfl) :
   PE X (.Call (.Name x p) (e::es) [] pos) (Ds sp uy E t):=by
 intro pins s σ H Q I h
 refine wpAny_Call_Name_kw (nY I hg hm ?_ AW)
 refine abz (h₀:=X.base) I.ok.mod.KP hk (iY (ha pos pins s σ H _ I h) fun us s1 ⟨vs,H1,I1,r,q⟩=>⟨I1.Az,?_⟩) he oW
 exact E5 F hr hb hd hx I1 r q
theorem Gh{pl:Sem Bool}(he:PE X o ta)(c:EY X.K C)(hm:Meth X.K C m f)(F:ie X.prog X.w X.K X.mg X.base CX k f fd ps sp)(hr:ku k X.A)(hb:Binds X.K fd ps ds)(hd:Vals uy ds)(hx:Passes CX X E)(ha:PA X (e::es) t)
   (zZ:starEach (e::es) X.env=(false,eval e X.env)::starEach es X.env:=by rfl) (oW:(backTo pos (starEach es X.env)).any (·.1)=false:=by rfl)
   (ht:eval (.Call (.Attribute o m apos) (e::es) [] pos) X.env=(do
     let ov ←eval o X.env
     standAt apos.atName
     let (f,first) ←holding [ov] (getMethod ov m pl)
     callWith pos f first (backTo pos (starEach (e::es) X.env)) (backToKw pos (keywordEach [] X.env))):=by rfl) :
   PE X (.Call (.Attribute o m apos) (e::es) [] pos) (Gg C m sp uy E ta t):=by
 intro pins s σ H Q I h
 refine PySem.W.methodCall_KW (pl:=pl) (iY (he pins s σ H _ I h) fun u s1 ⟨x,H1,I1,rx,a,dx,fs,ex,ea,l,q⟩=>?_) ht
 subst ex
 obtain rfl:u=Value.ref a:=rx
 refine yM I1 ea c hm l ?_
 refine abz (first:=[.ref a]) (h₀:=X.base) I.ok.mod.KP hm.kp (iY (ha pos pins s1 σ H1 _ I1 q) fun us s2 ⟨vs,H2,I2,r,q2⟩=>⟨I2.Az,?_⟩) zZ oW
 exact E5 (us:=.ref a::us) (vs:=.ref a::vs) F hr hb hd hx I2 (.cons rfl r) q2
theorem lA{pl:Sem Bool}(he:PE X o ta)(c:EY X.K C)(hm:Meth X.K C m f)(F:ie X.prog X.w X.K X.mg X.base CX k f fd ps sp)(hr:ku k X.A)(hb:Binds X.K fd ps ds)(hd:Vals uy ds)(hx:Passes CX X E)
   (ht:eval (.Call (.Attribute o m apos) [] [] pos) X.env=(do
     let ov ←eval o X.env
     standAt apos.atName
     let (f,first) ←holding [ov] (getMethod ov m pl)
     callWith pos f first (backTo pos (starEach [] X.env)) (backToKw pos (keywordEach [] X.env))):=by rfl) :
   PE X (.Call (.Attribute o m apos) [] [] pos) (Gg C m sp uy E ta Nf):=by
 intro pins s σ H Q I h
 refine PySem.W.methodCall_KW (pl:=pl) (iY (he pins s σ H _ I h) fun u s1 ⟨x,H1,I1,rx,a,dx,fs,ex,ea,l,q⟩=>?_) ht
 subst ex
 obtain rfl:u=Value.ref a:=rx
 refine yM I1 ea c hm l ?_
 exact PySem.W.callWith_K0 (first:=[.ref a]) I1.Az hm.kp (E5 (us:=[.ref a]) (vs:=[.ref a]) F hr hb hd hx I1 (.cons rfl .nil) q)
structure Mk(K:PySem.W.Frag)(C f:Addr):Prop where
 makes:PySem.W.makesIn K C=true
 init:PySem.W.findIn K (.ref C) "__init__"=some (some (.ref f))
 fn:PySem.W.isFn K (.ref f)=true
 kp:PySem.W.keepIn K (.ref C)=true
theorem Dt{pins:List (Addr×Obj)}{σ:St}{H:Hp}{s:Shared}{Q:VK}{us:List Value}{vs:List V}(M:Mk X.K C f)(F:ie X.prog X.w X.K X.mg X.base CX k f fd ps sp)(hr:ku (k+1) X.A)(hb:Binds X.K fd ps ds)(hd:Vals uy ds)
   (hx:Passes CX X E) (I:Inv X pins σ H s) (r:Vals vs us)
   (h:∀x dx,H x=none→H dx=none→dx≠x→sp (.ref x::(vs++uy)) (upd (upd H dx (.own x)) x (.ins C dx [])) (fun v H2=>v=.jv∧Q (.ref x) H2) E) :
   wpAny (model X.prog X.w) X.A (call (.ref C) us) (EP X pins σ Q) X.xe s:=by
 have hq:=h (s.heap.objs.size+1) s.heap.objs.size (I.iG.fresh (Nat.le_succ _)) (I.iG.fresh (UU _)) (aaM (abJ _))
 have I2:=Inv.made (C:=C) I
 have r2:Vals (V.ref (s.heap.objs.size+1)::(vs++uy)) (Value.ref (s.heap.objs.size+1)::(us++ds)):=.cons rfl (r.append hd)
 have hl:(Value.ref (s.heap.objs.size+1)::us++ds).length=ps.length:=by
   have e:=r2.length
   rw[F.len _ _ _ _ hq] at e
   exact e.symm
 refine wpAny_call (Iz (f:=f) I.Az M.makes M.init (beq_iff_eq.mp M.fn) (codeAny_mono (F.run _ X.stack _ _ ⟨Value.ref (s.heap.objs.size+1)::us,[]⟩ (Value.ref (s.heap.objs.size+1)::(us++ds)) _ _ E (hr.make C us [])
   (I2.K1.make C us []) (hb _ (Value.ref (s.heap.objs.size+1)::us) I2.Az hl) r2 hq) fun r s' Q9=>?_))
 cases r with
 | error e=>exact hx pins σ _ _ e s' I2 Q9
 | ok fl=>
   cases fl with
   | ret u=>
     obtain⟨v,H',I3,rv,ev,q3⟩:=I2.after Q9
     subst ev
     exact⟨rv,⟨V.ref (s.heap.objs.size+1),H',I3,rfl,q3⟩⟩
   | next=>exact False.elim Q9
   | brk=>exact False.elim Q9
   | cont=>exact False.elim Q9
theorem uF(M:Mk X.K C f)(F:ie X.prog X.w X.K X.mg X.base CX k f fd ps sp)(hr:ku (k+1) X.A)(hg:Gl X x)(hm:X.mg x=some (.ref C))(hb:Binds X.K fd ps ds)(hd:Vals uy ds)(hx:Passes CX X E)
   (ha:PA X (e::es) t) (AW:(x ==("__debug__":Str))=false:=by decide) (he:starEach (e::es) X.env=(false,eval e X.env)::starEach es X.env:=by rfl) (oW:(backTo pos (starEach es X.env)).any (·.1)=false:=by rfl) :
   PE X (.Call (.Name x p) (e::es) [] pos) (Mo C sp uy E t):=by
 intro pins s σ H Q I h
 refine wpAny_Call_Name_kw (nY I hg hm ?_ AW)
 refine abz (h₀:=X.base) I.ok.mod.KP M.kp (iY (ha pos pins s σ H _ I h) fun us s1 ⟨vs,H1,I1,r,q⟩=>⟨I1.Az,?_⟩) he oW
 exact Dt M F hr hb hd hx I1 r q
theorem IA(M:Mk X.K C f)(F:ie X.prog X.w X.K X.mg X.base CX k f fd ps sp)(hr:ku (k+1) X.A)(hg:Gl X x)(hm:X.mg x=some (.ref C))(hb:Binds X.K fd ps ds)(hd:Vals uy ds)(hx:Passes CX X E)
   (AW:(x ==("__debug__":Str))=false:=by decide):PE X (.Call (.Name x p) [] [] pos) (Mo C sp uy E Nf):=by
 intro pins s σ H Q I h
 refine wpAny_Call_Name_kw (nY I hg hm ?_ AW)
 exact PySem.W.callWith_K0 I.Az M.kp (Dt (us:=[]) M F hr hb hd hx I .nil h)
end
def PK(X:Cx)(Yd:List Keyword)(t:TA):Prop:=
 ∀(pos:Pos)(pins:List (Addr×Obj))(s:Shared)(σ:St)(H:Hp)(Q:List V→Hp→Prop),Inv X pins σ H s→t σ H Q→wpAny (model X.prog X.w) X.A (evalAll ((backToKw pos (keywordEach Yd X.env)).map (·.2))) (AP X pins σ Q) X.xe s
section
variable{X:Cx}{CX:E4}{k:Nat}{f C:Addr}{fd:FuncData}{ps ks:List Str}{sp:Sp}{E:XK}{x m:Str}{p pos apos kpos:Pos}{e o:Expr}{es:List Expr}{Yd:List Keyword}{te ta:TE}{t tk:TA}{nm:Option Str}
variable{g:List Value→List Value→List Value}{gV:List V→List V→List V}
end
structure gm(N P:List Str)(sc:Scope):Prop where
 kind:sc.kind=.function
 co:sc.isCoroutine=false
 gen:sc.isGenerator=false
 nd:N.Nodup
 pre:N.take P.length=P
 par:∀x∈P,sc.names.lookup x=some .local∨sc.names.lookup x=some .cell
 Ng:∀y∈sc.names,y.2≠.free
theorem A5{kindOf:Str→Option NameKind}{x:Str}:∀{binds:List (Str×Value)} {m:Str→Option Value},(∀v,(x,v)∉binds)→bindL kindOf binds m x=m x
 | [],_,_=>rfl
 | (n,v)::r,m,h=>by
   unfold bindL
   rw[A5 fun w hw=>h w (aag _ hw)]
   split
   · have:x≠n:=by rintro rfl;exact h v aan
     simp[this]
   · rfl
theorem A6{kindOf:Str→Option NameKind}{x:Str}:∀{binds:List (Str×Value)} {m:Str→Option Value},(∀v,(x,v)∉binds)→bindC kindOf binds m x=m x
 | [],_,_=>rfl
 | (n,v)::r,m,h=>by
   unfold bindC
   rw[A6 fun w hw=>h w (aag _ hw)]
   split
   · rfl
   · have:x≠n:=by rintro rfl;exact h v aan
     simp[this]
theorem A7{kindOf:Str→Option NameKind}{x:Str}{v:Value}:∀{P:List Str} {vs:List Value} {i:Nat} {m:Str→Option Value},P.Nodup→P[i]?=some x→vs[i]?=some v→kindOf x=some .local→
   bindL kindOf (P.zip vs) m x=some v
 | [],_,_,_,_,h,_,_=>by simp at h
 | _::_,[],_,_,_,_,h,_=>by simp at h
 | p::P,w::vs,0,m,nd,h1,h2,hk=>by
   simp at h1 h2;subst h1;subst h2
   show bindL kindOf ((p,w)::P.zip vs) m p=_
   unfold bindL
   rw[A5 fun v hv=>(aaQ.mp nd).1 (List.of_mem_zip hv).1,aap hk]
   simp
 | p::P,w::vs,i+1,m,nd,h1,h2,hk=>by
   show bindL kindOf ((p,w)::P.zip vs) m x=_
   unfold bindL
   exact A7 (i:=i) (aaQ.mp nd).2 (by simpa using h1) (by simpa using h2) hk
theorem A8{kindOf:Str→Option NameKind}{x:Str}{v:Value}:∀{P:List Str} {vs:List Value} {i:Nat} {m:Str→Option Value},P.Nodup→P[i]?=some x→vs[i]?=some v→kindOf x≠some .local→
   bindC kindOf (P.zip vs) m x=some v
 | [],_,_,_,_,h,_,_=>by simp at h
 | _::_,[],_,_,_,_,h,_=>by simp at h
 | p::P,w::vs,0,m,nd,h1,h2,hk=>by
   simp at h1 h2;subst h1;subst h2
   show bindC kindOf ((p,w)::P.zip vs) m p=_
   unfold bindC
   rw[A6 fun v hv=>(aaQ.mp nd).1 (List.of_mem_zip hv).1,aak hk]
   simp
 | p::P,w::vs,i+1,m,nd,h1,h2,hk=>by
   show bindC kindOf ((p,w)::P.zip vs) m x=_
   unfold bindC
   exact A8 (i:=i) (aaQ.mp nd).2 (by simpa using h1) (by simpa using h2) hk
def start(N:List Str)(vs:List V):St:=vs.map some++List.replicate (N.length-vs.length) none
def vO(CX:E4)(P:Program)(w:World)(K:PySem.W.Frag)(mg:Str→Option Value)(base:Heap)(N:List Str)(qual:Str)(scope:Scope)(f:Addr)(cd:Value)(A:Around)(outer:List Env)(s:Shared)(H:Hp)(E:XK):Cx where
 prog:=P
 w:=w
 K:=K
 mg:=mg
 base:=base
 A:=A.deeper (envOfC qual scope s.heap.objs.size f cd)
 N:=N
 s₀:=s
 H₀:=H
 env:=envOfC qual scope s.heap.objs.size f cd
 outer:=outer
 stack:=envOfC qual scope s.heap.objs.size f cd::outer
 ex:=[]
 calm:=true
 fn:=fun _=>true
 pn:=[]
 xe:=fun e s'=>wpAny (model P w) (A.deeper (envOfC qual scope s.heap.objs.size f cd)) (leaving (envOfC qual scope s.heap.objs.size f cd) e) (fun _ HY=>CX outer H s E e HY) (fun e' HY=>CX outer H s E e' HY) s'
theorem yN{sc:Scope}{n:Nat}{x:Str}(h:sc.names.lookup x=some .cell):∃c,(cellsFrom n sc.names []).lookup x=some c:=by
 have q:=PySem.W.cellsFrom_some sc.names n [] (.inl h)
 exact Option.isSome_iff_exists.mp q
theorem A9{CX:E4}{P:Program}{w:World}{K:PySem.W.Frag}{mg:Str→Option Value}{base:Heap}{N ps:List Str}{qual:Str}{scope:Scope}{f:Addr}{cd:Value}{A:Around}{outer:List Env}{s s1:Shared}{H:Hp}{E:XK}{us:List Value}{vs:List V}
   (S:gm N ps scope) (hd:A.handled=none) (e0:Dr P w K mg base A outer s H) (hl:vs.length=ps.length) (r:Vals vs us)
   (x:InCallC s s.heap.objs.size (bindL (envOfC qual scope s.heap.objs.size f cd).kindOf (ps.zip us) fun _=>none) (cellsFrom (s.heap.objs.size+1) scope.names []) (bindC (envOfC qual scope s.heap.objs.size f cd).kindOf (ps.zip us) fun _=>none) s1) :
   Inv (vO CX P w K mg base N qual scope f cd A outer s H E) [] (start N vs) H s1:=by
 have oW:ps.length≤N.length:=by have:=congrArg List.length S.pre;rw[aau] at this;omega
 obtain⟨h1,tk,rfl,hk⟩:=x.done
 have Q_:∀b:Addr,b∉(vO CX P w K mg base N qual scope f cd A outer s H E).ex:=fun b z=>absurd (show b∈([]:List Addr) from z) (by simp)
 refine⟨⟨e0.mod,S.kind,rfl,rfl,UU _,fun y z c h1 h2=>?_,fun y hy=>?_,fun y c _ h=>?_,fun _=>hd,Around.frames_deeper e0.frames,.inr ⟨rfl,rfl⟩,fun b z=>absurd z (Q_ b),e0.bs,e0.G9,fun b _ _=>Q_ b,fun b z=>absurd z (Q_ b),e0.qP,e0.Ij⟩,
   rfl,e0.bare,Un.kept hk,⟨_,x.toInCall.ns,fun i y v h1 h2 h3=>?_⟩,fun y c h=>⟨_,x.cell y c h⟩,e0.iG.fresh (UU _),fun y c h=>?_,fun p hp=>absurd (show p∈([]:List (Addr×Obj)) from hp) (by simp),e0.iG.kept hk,?_⟩
 · exact name_of_addr x.apart (abb h1) (abb h2)
 · have hy:scope.names.lookup y=some .cell∨scope.names.lookup y=some .free:=hy
   rcases hy with hy|hy
   · exact yN hy
   · exact absurd rfl (S.Ng _ (abb hy))
 · exact Nat.le_of_lt (x.above y c (abb h))
 · have hi:i<vs.length:=by
     unfold start at h2
     by_cases hi:i<vs.length
     · exact hi
     · rw[aa4 (by simpa using hi)] at h2
       rw[List.getElem?_replicate] at h2
       split at h2<;>cases h2
   have ha:vs[i]?=some v:=by
     unfold start at h2
     rw[abo (by simpa using hi),aah] at h2
     cases e:vs[i]? with
     | none=>rw[e] at h2;cases h2
     | some a=>rw[e] at h2;cases h2;rfl
   obtain⟨u,hu,rv⟩:=r.get ha
   have hp:ps[i]?=some y:=by
     rw[←S.pre,List.getElem?_take_of_lt (by omega)];exact h1
   have Ye:ps.Nodup:=by rw[←S.pre];exact S.nd.sublist (abG _ _)
   refine⟨u,rv,?_⟩
   rcases S.par y (VI hp) with k|k
   · exact .inl ⟨k,A7 Ye hp hu k⟩
   · obtain⟨c,e⟩:=yN (n:=s.heap.objs.size+1) k
     refine .inr ⟨.inl k,c,e,?_⟩
     have q:=x.cell y c e
     rw[A8 Ye hp hu (by show scope.names.lookup y≠_;rw[k];decide)] at q
     exact q
 · exact e0.iG.fresh (Nat.le_of_lt (x.above y c (abb h)))
 · unfold start
   show _=N.length
   rw[VO,RF,List.length_replicate]
   omega
theorem Mp{CX:E4}{P:Program}{w:World}{K:PySem.W.Frag}{mg:Str→Option Value}{base:Heap}{k:Nat}{f:Addr}{name qual:Str}{params:Arguments}{body:List Stmt}{scope:Scope}{dV kV doc pm jd ct oc:Value}{an od:Option Addr}
   {HZ:Array (Option Value)} {N ps:List Str} {sp:Sp} (lk:K.lookup f=some ⟨oc,od,.func (PySem.W.fnOf name qual params body scope dV kV doc pm an jd ct),HZ⟩) (Ay:PySem.W.codeIn K jd qual=true) (S:gm N ps scope)
   (len:∀vs H Q E,sp vs H Q E→vs.length=ps.length)
   (z8:∀(A:Around)(outer:List Env)(s:Shared)(H:Hp)(vs:List V)(Q:VK)(E:XK),ku k (A.deeper (envOfC qual scope s.heap.objs.size f jd))→sp vs H Q E→
     ∃t,Dg (vO CX P w K mg base N qual scope f jd A outer s H E) body t∧t {nx:=fun _ H'=>Q .jv H',rt:=Q} (start N vs) H) :
   ie P w K mg base CX (k+1) f (PySem.W.fnOf name qual params body scope dV kV doc pm an jd ct) ps sp:=by
 refine⟨len,fun A outer s H args us vs Q E hr e0 hb r H_=>?_⟩
 have hl:=len _ _ _ _ H_
 have KX:K.In s.heap:=e0.mod.KP.keeps fun b o e=>(e0.bs b o e).1
 have lim:s.heap.NoLimit:=e0.mod.nolimit.keeps fun b o e=>(e0.bs b o e).1
 have Kc:∀y∈ps.zip us,scope.names.lookup y.1=some .local∨(scope.names.lookup y.1=some .cell∧((cellsFrom (s.heap.objs.size+1) scope.names []).lookup y.1).isSome=true):=fun⟨n,v⟩ hy=>by
   rcases S.par n (List.of_mem_zip hy).1 with q|q
   · exact .inl q
   · exact .inr ⟨q,PySem.W.cellsFrom_some _ _ _ (.inl q)⟩
 refine codeAny_call_function hr.depth (KX _ _ lk) rfl S.co S.gen rfl (PySem.W.codeRec_of KX Ay) (hb _ _ _ _ ?_)
 refine wpAny_newFunctionEnv_cells S.kind Kc fun env he s1 x=>?_
 subst he
 refine⟨lim.keeps x.toInCall.keep,codeAny_func ?_⟩
 obtain⟨t,ht,hq⟩:=z8 A outer s H vs Q E (hr.deeper _) H_
 have I:Inv (vO CX P w K mg base N qual scope f jd A outer s H E) [] (start N vs) H s1:=A9 S hr.hd e0 hl r x
 refine wpAny_mono (ht [] s1 (start N vs) H _ I hq) (fun fl s' hs=>?_) fun e s' hs=>hs
 have fin:∀{σ':St} {H':Hp} {v:V} {u:Value},Inv (vO CX P w K mg base N qual scope f jd A outer s H E) [] σ' H' s'→RelV v u→Q v H'→CE outer P w H s Q u s':=
   fun{σ' H' v u} J rv q=>⟨v,H',J.os,J.bare,J.base,J.iG,rv,q⟩
 cases fl with
 | ret u=>
   obtain⟨v,σ',H',J,rv,q⟩:=hs
   exact fin J rv q
 | next=>
   obtain⟨σ',H',J,q⟩:=hs
   exact fin (v:=V.jv) (u:=Value.none) J rfl q
 | brk=>
   obtain⟨_,_,_,q⟩:=hs
   exact False.elim q
 | cont=>
   obtain⟨_,_,_,q⟩:=hs
   exact False.elim q
section
variable{X:Cx}{x:Str}{p pos:Pos}{e:Expr}{es:List Expr}{t:TA}{id T:String}{r:List V→Hp→VK→Prop}
def XQ(r:List V→Hp→VK→Prop)(t:TA):TE:=fun σ H Q=>t σ H fun vs H1=>r vs H1 Q
theorem gD(hc:uC X (.builtin id) r)(hg:Gl X x)(hm:X.mg x=none)(hv:bootBuiltins x=some (.builtin id))(ha:PA X (e::es) t)(hn:x≠"__name__":=by decide)(AW:(x ==("__debug__":Str))=false:=by decide)
   (he:starEach (e::es) X.env=(false,eval e X.env)::starEach es X.env:=by rfl) (oW:(backTo pos (starEach es X.env)).any (·.1)=false:=by rfl):PE X (.Call (.Name x p) (e::es) [] pos) (XQ r t):=by
 intro pins s σ H Q I h
 refine wpAny_Call_Name_kw (oI I hg hm hv ?_ hn AW)
 exact PyProof.Rows.callWith_builtin1 (iY (ha pos pins s σ H _ I h) fun us s1 ⟨vs,H1,I1,r1,q1⟩=>hc pins s1 σ H1 vs us Q I1 r1 q1) he oW
theorem sF(hc:uC X (.type T) r)(hg:Gl X x)(hm:X.mg x=none)(hv:bootBuiltins x=some (.type T))(ha:PA X (e::es) t)(hn:x≠"__name__":=by decide)(AW:(x ==("__debug__":Str))=false:=by decide)
   (he:starEach (e::es) X.env=(false,eval e X.env)::starEach es X.env:=by rfl) (oW:(backTo pos (starEach es X.env)).any (·.1)=false:=by rfl):PE X (.Call (.Name x p) (e::es) [] pos) (XQ r t):=by
 intro pins s σ H Q I h
 refine wpAny_Call_Name_kw (oI I hg hm hv ?_ hn AW)
 exact aaP (iY (ha pos pins s σ H _ I h) fun us s1 ⟨vs,H1,I1,r1,q1⟩=>hc pins s1 σ H1 vs us Q I1 r1 q1) he oW
end
end L2
namespace HT
open PySem PyProof.Rows
section
open PySem.SeqAt
open PySem.AutoSeq1 (wpAny_loadPart')
open PySem.MeetsSeq PySem.MeetsSeq2 PySem.MeetsSeq3
end
section
variable{prog:Program}{w:World}{A:Around}{E:Value→Shared→Prop}{s:Shared}
def Du(n d:Nat):Option Int→Nat
 | none=>d
 | some v=>if v<0 then(v+(n:Int)).toNat else min v.toNat n
theorem Dw(n d:Nat):Du n d none=d:=rfl
theorem Gi(n d k:Nat):Du n d (some (k:Int))=min k n:=by
 show(if(k:Int)<0 then((k:Int)+(n:Int)).toNat else min (k:Int).toNat n)=min k n
 rw[aak (by omega),abq]
end
end HT
namespace L2
open PySem PySem.Spec PyProof.Rows
abbrev TO:=St→Hp→(Option Int→Hp→Prop)→Prop
def PO(X:Cx)(e:Option Expr)(t:TO):Prop:=
 ∀(pins:List (Addr×Obj))(s:Shared)(σ:St)(H:Hp)(Q:Option Int→Hp→Prop),Inv X pins σ H s→t σ H Q→
   wpAny (model X.prog X.w) X.A (evalPart e X.env) (fun u s'=>∃o H',Inv X pins σ H' s'∧IsPart u o∧Q o H') X.xe s
def K2:TO:=fun _ H Q=>Q none H
def Qh(t:TE):TO:=fun σ H Q=>t σ H fun x H1=>∃i,x=.int i∧Q (some i) H1
section
variable{X:Cx}{e:Expr}{te:TE}{lo hi:Option Expr}{tl th:TO}{pos p2:Pos}
theorem nZ:PO X none K2:=by
 intro pins s σ H Q I h
 rw[evalPart_none]
 exact wpAny_pure ⟨none,H,I,.none,h⟩
theorem n1(h:PE X e te):PO X (some e) (Qh te):=by
 intro pins s σ H Q I hw
 rw[evalPart_some]
 refine iY (h pins s σ H _ I hw) fun u s1 ⟨x,H1,I1,r1,q1⟩=>?_
 obtain⟨i,rfl,q⟩:=q1
 obtain⟨t,rfl⟩:=r1
 exact⟨some i,H1,I1,.int i t,q⟩
def XR(X:Cx)(r:V→Option Int→Option Int→Hp→VK→Prop):Prop:=
 ∀(pins:List (Addr×Obj))(s:Shared)(σ:St)(H:Hp)(x:V)(v vl vu:Value)(lo hi:Option Int)(sl:Addr)(Q:VK),Inv X pins σ H s→RelV x v→s.heap.IsSliceOf sl vl vu .none→IsPart vl lo→IsPart vu hi→r x lo hi H Q→
   ∃T id,typeLookup (.type T) "__getitem__"=pure (some (.builtin id))∧s.TypeIs v T∧wpAny (model X.prog X.w) X.A (getItem v (.ref sl)) (EP X pins σ Q) X.xe s
def tSl(r:V→Option Int→Option Int→Hp→VK→Prop)(te:TE)(tl th:TO):TE:=fun σ H Q=>te σ H fun x H1=>tl σ H1 fun l H2=>th σ H2 fun u H3=>r x l u H3 Q
theorem mq{r:V→Option Int→Option Int→Hp→VK→Prop}(hr:XR X r)(he:PE X e te)(hl:PO X lo tl)(hu:PO X hi th):PE X (.Subscript e (.Slice lo hi none p2) pos) (tSl r te tl th):=by
 intro pins s σ H Q I h
 refine Subscript_ (iY (he pins s σ H _ I h) fun v s1 ⟨x,H1,I1,r1,q1⟩=>?_)
 refine wpAny_Slice (iY (hl pins s1 σ H1 _ I1 q1) fun vl s2 ⟨l,H2,I2,pl,q2⟩=>iY (hu pins s2 σ H2 _ I2 q2) fun vu s3 ⟨u,H3,I3,pu,q3⟩=>?_)
 rw[evalPart_none]
 refine wpAny_pure ?_
 have I4:Inv X pins σ H3 {s3 with heap:=s3.heap.push {cls:=.type "slice",data:=.fields #[vl,vu,.none]}}:=I3.kept (t':=s3.toks) fun b ob q=>Heap.get?_push_of_some _ q
 obtain⟨T,id,hT,ht,hg⟩:=hr pins {s3 with heap:=s3.heap.push {cls:=.type "slice",data:=.fields #[vl,vu,.none]}} σ H3 x v vl vu l u s3.heap.objs.size Q I4 r1 (Heap.IsSliceOf.new ..) pl pu q3
 show wpAny (model X.prog X.w) X.A (subscriptTail e (.Slice lo hi none p2) v (.ref s3.heap.objs.size)) (EP X pins σ Q) X.xe {s3 with heap:=s3.heap.push {cls:=.type "slice",data:=.fields #[vl,vu,.none]}}
 exact tail_any (ops:=[.ref s3.heap.objs.size,v]) ht hT hg (by with_unfolding_all rfl)
def uG(xs:List V)(lo hi:Option Int):List V:=(xs.drop (HT.Du xs.length 0 lo)).take (HT.Du xs.length xs.length hi-HT.Du xs.length 0 lo)
theorem Dx(xs:List V)(lo hi:Option Int):(uG xs lo hi).length≤xs.length:=by
 unfold uG
 rw[aau,List.length_drop]
 omega
end
def IB(n:Nat)(i:Int):Option Nat:=if 0≤i then(if i<n then some i.toNat else none) else if -(n:Int)≤i then some (i+n).toNat else none
def E6{α:Type}(xs:List α)(i:Int):Option α:=(IB xs.length i).bind fun j=>xs[j]?
theorem Gj{n:Nat}{i:Int}{j:Nat}(h:IB n i=some j):seqIndex? i n=some j∧j<n∧-(n:Int)≤i∧i<n:=by
 unfold IB at h
 by_cases h0:0≤i
 · rw[aap h0] at h
   by_cases h1:i<n
   · rw[aap h1] at h
     have e:i.toNat=j:=aat h
     exact⟨by rw[seqIndex_of h0 h1,e],by omega,by omega,h1⟩
   · rw[aak h1] at h;cases h
 · rw[aak h0] at h
   by_cases h1:-(n:Int)≤i
   · rw[aap h1] at h
     have e:(i+n).toNat=j:=aat h
     exact⟨by rw[seqIndex_neg (by omega) h1,e],by omega,h1,by omega⟩
   · rw[aak h1] at h;cases h
theorem BP{α:Type}{xs:List α}{i:Int}{v:α}(h:E6 xs i=some v):∃j,seqIndex? i xs.length=some j∧xs[j]?=some v∧j<xs.length∧-(xs.length:Int)≤i∧i<xs.length:=by
 unfold E6 at h
 cases e:IB xs.length i with
 | none=>rw[e] at h;cases h
 | some j=>
   rw[e] at h
   obtain⟨h1,h2,h3,h4⟩:=Gj e
   exact⟨j,h1,h,h2,h3,h4⟩
theorem K3{α:Type}{xs:List α}{j:Nat}{v:α}(h:xs[j]?=some v):E6 xs (j:Int)=some v:=by
 have hj:j<xs.length:=(RL.mp h).1
 have e:IB xs.length (j:Int)=some j:=by
   unfold IB
   rw[aap (by omega),aap (by omega)];simp
 unfold E6;rw[e];exact h
theorem Dy{α:Type}(xs:List α)(v:α):E6 (xs++[v]) (-1)=some v:=by
 have hl:(xs++[v]).length=xs.length+1:=by simp
 have e:IB (xs++[v]).length (-1)=some xs.length:=by
   unfold IB
   rw[hl,aak (by decide),aap (by omega)]
   congr 1
   omega
 unfold E6
 rw[e]
 show(xs++[v])[xs.length]?=some v
 simp
def K4(b:Expr):Prop:=∀o i,subscripted b false o i=operate [o,i] (getItem o i)
def S3(X:Cx)(r:R2):Prop:=
 ∀(value slice:Expr)(pins:List (Addr×Obj))(s:Shared)(σ:St)(H:Hp)(x y:V)(v u:Value)(Q:VK),Inv X pins σ H s→RelV x v→RelV y u→r x y H Q→
   subscripted slice false v u=operate [v,u] (getItem v u)→wpAny (model X.prog X.w) X.A (subscriptTail value slice v u) (EP X pins σ Q) X.xe s
def Uz(X:Cx)(id:String)(r:V→List V→Hp→VK→Prop):Prop:=
 ∀(pins:List (Addr×Obj))(s:Shared)(σ:St)(H:Hp)(x:V)(xs:List V)(v:Value)(us:List Value)(Q:VK),Inv X pins σ H s→RelV x v→Vals xs us→r x xs H Q→
   wpAny (model X.prog X.w) X.A (call (.builtin id) (v::us)) (EP X pins σ Q) X.xe s
section
variable{X:Cx}{a b:Expr}{ta tb:TE}{pos:Pos}
theorem iA{r:R2}(hr:S3 X r)(ha:PE X a ta)(hb:PE X b tb)(hs:K4 b):PE X (.Subscript a b pos) (SY r ta tb):=by
 intro pins s σ H Q I h
 exact Subscript_ (M_ ha hb I h fun v u s2 x y H2 I2 rx ry q=>hr a b pins s2 σ H2 x y v u Q I2 rx ry q (hs _ _))
def UA(K:PySem.W.Frag):R2:=fun x y H Q=>∃p xs i v,x=.ref p∧y=.int i∧hV K H p xs∧E6 xs i=some v∧Q v H
def UB(K:PySem.W.Frag):R2:=fun x y H Q=>∃p xs i v,x=.ref p∧y=.int i∧vK K H p xs∧E6 xs i=some v∧Q v H
def UC:R2:=fun x y H Q=>∃z i c,x=.str z∧y=.int i∧z.length≤sizeLine∧E6 z.cps.toList i=some c∧Q (.str ⟨#[c]⟩) H
theorem h_:S3 X (UA X.K):=by
 intro value slice pins s σ H x y v u Q I rx ry h hs
 obtain⟨p,xs,i,z,rfl,rfl,hq,he,q⟩:=h
 cases rx
 obtain⟨t,rfl⟩:=ry
 obtain⟨hX,r,pl,hz⟩:=I.list hq
 obtain⟨j,h1,h2,h3,h4,h5⟩:=BP he
 obtain⟨w,ew,AX⟩:=r.get h2
 have hl:=r.length
 have hn:=tS
 have fin:EP X pins σ Q w s:=⟨z,H,I,AX,q⟩
 by_cases h0:0≤i
 · have hj:i.toNat=j:=by
     rw[seqIndex_of h0 h5] at h1
     exact aat h1
   exact item_listR pl.isList h0 (by omega) (by rw[hj];simpa using ew) fin hs
 · have hj:(i+(hX.toArray.size:Int)).toNat=j:=by
     rw[seqIndex_neg (by omega) h4] at h1
     rw[aae,←hl]
     exact aat h1
   exact subscriptTail_builtinR (x:=w) pl.isList.typeIs slot_list_getitem.lookup
     (wpAny_getItem_list_neg (Q:=fun r s'=>r=w∧EP X pins σ Q r s') pl.isList (by omega) (by rw[aae]<;>omega) (by omega) (by rw[hj];simpa using ew) ⟨rfl,fin⟩) hs
theorem yO:S3 X (UB X.K):=by
 intro value slice pins s σ H x y v u Q I rx ry h hs
 obtain⟨p,xs,i,z,rfl,rfl,hq,he,q⟩:=h
 cases rx
 obtain⟨t,rfl⟩:=ry
 obtain⟨hX,r,pl,hz⟩:=I.tuple hq
 obtain⟨j,h1,h2,h3,h4,h5⟩:=BP he
 obtain⟨w,ew,AX⟩:=r.get h2
 have hl:=r.length
 have hn:=tS
 have fin:EP X pins σ Q w s:=⟨z,H,I,AX,q⟩
 exact subscriptTail_builtinR (x:=w) pl.typeIs slot_tuple_getitem.lookup
   (getItem_tuple (j:=j) (Q:=fun r s'=>r=w∧EP X pins σ Q r s') pl (by omega) (by omega) (by rw[aae,←hl];exact h1) (by simpa using ew) ⟨rfl,fin⟩) hs
theorem E7:S3 X UC:=by
 intro value slice pins s σ H x y v u Q I rx ry h hs
 obtain⟨z,i,c,rfl,rfl,hz,he,q⟩:=h
 obtain⟨t,rfl⟩:=rx
 obtain⟨t',rfl⟩:=ry
 obtain⟨j,h1,h2,h3,h4,h5⟩:=BP he
 have hl:z.cps.toList.length=z.length:=by simp[Str.length]
 rw[hl] at h1 h4 h5
 have hn:=tS
 exact tail_any (typeIs_str s z t) slot_str_getitem.lookup (getItem_str (c:=c) (by
   have e1:decide (i < -(2 ^ 63:Int))=false:=XX (by omega)
   have e2:decide (i≥2 ^ 63)=false:=XX (by omega)
   rw[e1,e2,Bool.or_false]) (by rw[h1];simpa using h2) ⟨.str ⟨#[c]⟩,H,I.tok _,⟨_,rfl⟩,q⟩) hs
theorem E8(hX:List Value)(n j:Nat)(u:Value):Obj.mapSeq (·.setIfInBounds j u) {cls:=.type "list",data:=.seq hX.toArray n}={cls:=.type "list",data:=.seq (hX.set j u).toArray n}:=by
 simp[Obj.mapSeq]
theorem Inv.lst{pins:List (Addr×Obj)}{σ:St}{H:Hp}{s:Shared}{p:Addr}{xs:List V}(I:Inv X pins σ H s)(h:H p=some (.lst xs)) :
   ∃(hX:List Value)(n:Nat),Vals xs hX∧s.heap.get? p=some {cls:=.type "list",data:=.seq hX.toArray n}∧xs.length≤sizeLine:=by
 obtain⟨z,hX,n,r,e⟩:=I.iG p _ h
 exact⟨hX,n,r,e,z⟩
theorem Inv.Nh{pins:List (Addr×Obj)}{σ:St}{H:Hp}{s:Shared}{p:Addr}{xs ys:List V}{hX its':List Value}{n n':Nat}{f:Obj→Obj}(I:Inv X pins σ H s)(h:H p=some (.lst xs))
   (ho:s.heap.get? p=some {cls:=.type "list",data:=.seq hX.toArray n}) (hf:f {cls:=.type "list",data:=.seq hX.toArray n}={cls:=.type "list",data:=.seq its'.toArray n'}) (r:Vals ys its') (hz:ys.length≤sizeLine) (t:Nat) :
   Inv X pins σ (upd H p (.lst ys)) {s with heap:=s.heap.update p f,toks:=t}:=by
 have e:(s.heap.update p f).get? p=some {cls:=.type "list",data:=.seq its'.toArray n'}:=by
   rw[Heap.get?_update_self f ho (by rw[hf]<;>rfl),hf]
 refine I.write (x:=p) (e:=p) (by rw[h];trivial) (.inl rfl) (fun b u hb q=>(Heap.get?_update_other _ _ (Ne.symm hb)).trans q) ⟨_,e⟩ ?_
 exact⟨hz,its',n',r,e⟩
def Qi:V→V→V→Hp→(Hp→Prop)→Prop:=fun o i v H Q=>∃p xs k j,o=.ref p∧i=.int k∧H p=some (.lst xs)∧IB xs.length k=some j∧Q (upd H p (.lst (xs.set j v)))
theorem set_list:P8 X Qi:=by
 intro pins s σ H o i v ov iv u Q I ro ri rv h
 obtain⟨p,xs,k,j,rfl,rfl,hp,hj,q⟩:=h
 cases ro
 obtain⟨t,rfl⟩:=ri
 obtain⟨hX,n,r,ho,hz⟩:=I.lst hp
 obtain⟨h1,h2,h3,h4⟩:=Gj hj
 have hl:=r.length
 have hn:=tS
 have I':Inv X pins σ (upd H p (.lst (xs.set j v))) {s with heap:=s.heap.update p (Obj.mapSeq (·.setIfInBounds j u))}:=
   I.Nh hp ho (E8 hX n j u) (r.set rv j) (by rw[abM];exact hz) s.toks
 by_cases h0:0≤k
 · have hk:k.toNat=j:=by
     rw[seqIndex_of h0 h4] at h1
     exact aat h1
   exact PySem.W.ki_setAt ho h0 (by omega) (by rw[aae,←hl];exact h4) (by rw[hk];exact⟨_,I',q⟩)
 · have hk:(k+(hX.toArray.size:Int)).toNat=j:=by
     rw[seqIndex_neg (by omega) h3] at h1
     rw[aae,←hl]
     exact aat h1
   exact PySem.W.ki_setBack ho (by omega) (by rw[aae,←hl];exact h3) (by omega) (by rw[hk];exact⟨_,I',q⟩)
theorem BQ(lo hi:Option Int)(n:Nat):(sliceBounds lo hi none n).1=((HT.Du n 0 lo:Nat):Int)∧(sliceBounds lo hi none n).2.1=((HT.Du n n hi:Nat):Int)∧(sliceBounds lo hi none n).2.2=1:=by
 refine⟨?_,?_,rfl⟩
 · cases lo with
   | none=>simp[sliceBounds,HT.Du]
   | some i=>
     simp only [sliceBounds,HT.Du,Option.getD_none,show(1:Int)>0 by decide,if_true]
     by_cases h:i<0
     · simp only [h,if_true]<;>omega
     · simp only [h,if_false]<;>omega
 · cases hi with
   | none=>simp[sliceBounds,HT.Du]
   | some i=>
     simp only [sliceBounds,HT.Du,Option.getD_none,show(1:Int)>0 by decide,if_true]
     by_cases h:i<0
     · simp only [h,if_true]<;>omega
     · simp only [h,if_false]<;>omega
theorem AB(hX:List Value)(lo hi:Option Int):slicePick hX.toArray lo hi none=((hX.drop (HT.Du hX.length 0 lo)).take (HT.Du hX.length hX.length hi-HT.Du hX.length 0 lo)).toArray:=by
 obtain⟨h1,h2,h3⟩:=BQ lo hi hX.toArray.size
 unfold slicePick
 rw[h1,h2,h3]
 simp only [sliceRange_one,pick_run,aae]<;>rfl
def UD(K:PySem.W.Frag):V→Option Int→Option Int→Hp→VK→Prop:=fun x lo hi H Q=>∃a xs,x=.ref a∧hV K H a xs∧∀p,H p=none→Q (.ref p) (upd H p (.lst (uG xs lo hi)))
theorem n4:XR X (UD X.K):=by
 intro pins s σ H x v vl vu lo hi sl Q I rx hs pl pu h
 obtain⟨a,xs,rfl,hx,q⟩:=h
 cases rx
 obtain⟨hX,r,ht,hz⟩:=I.list hx
 have hlen:=r.length
 refine⟨"list",_,slot_list_getitem.lookup,ht.isList.typeIs,?_⟩
 refine wpAny_getItem_list_slice ht.isList hs pl pu .none (by simp) ?_ (by rw[aae]<;>omega)
 rw[AB,←hlen]
 refine⟨.ref s.heap.objs.size,_,I.laid (t':=s.toks) (o:=.lst (uG xs lo hi)) (fun b ob q=>Heap.get?_push_of_some _ q) (UU _) ?_,rfl,q _ (I.iG.fresh (UU _))⟩
 exact⟨aac (Dx xs lo hi) hz,_,0,(r.drop (HT.Du xs.length 0 lo)).take (HT.Du xs.length xs.length hi-HT.Du xs.length 0 lo),Heap.get?_push_size _ rfl⟩
def lV:V→Bool
 | .jv=>true
 | .bl _=>true
 | .int _=>true
 | .str _=>true
 | _=>false
def Gk:V→V→Bool
 | .jv,.jv=>true
 | .bl a,.bl b=>a ==b
 | .bl a,.int b=>(if a then 1 else 0) ==b
 | .int a,.bl b=>a ==(if b then 1 else 0)
 | .int a,.int b=>a ==b
 | .str a,.str b=>a ==b
 | _,_=>false
theorem IC{A:Around}{s:Shared}{y x:V}{u v:Value}(ry:RelV y u)(rx:RelV x v)(fy:lV y=true)(fx:lV x=true):SeqAt.EqAt A s u v (Gk y x):=by
 cases y with
 | jv=>
   cases ry
   cases x with
   | jv=>cases rx;exact SeqAt.EqAt.same _
   | bl b=>cases rx;exact SeqAt.EqAt.none_bool b
   | int b=>obtain⟨t,rfl⟩:=rx;exact SeqAt.EqAt.none_int b t
   | str b=>obtain⟨t,rfl⟩:=rx;exact SeqAt.EqAt.none_str b t
   | _=>exact absurd (show false=true from fx) aad
 | bl a=>
   cases ry
   cases x with
   | jv=>cases rx;exact SeqAt.EqAt.bool_none a
   | bl b=>cases rx;exact SeqAt.EqAt.bool_bool a b
   | int b=>obtain⟨t,rfl⟩:=rx;exact SeqAt.EqAt.bool_int a b t
   | str b=>obtain⟨t,rfl⟩:=rx;exact SeqAt.EqAt.bool_str a b t
   | _=>exact absurd (show false=true from fx) aad
 | int a=>
   obtain⟨t',rfl⟩:=ry
   cases x with
   | jv=>cases rx;exact SeqAt.EqAt.int_none a t'
   | bl b=>cases rx;exact SeqAt.EqAt.int_bool a t' b
   | int b=>obtain⟨t,rfl⟩:=rx;exact SeqAt.EqAt.int_int a t' b t
   | str b=>obtain⟨t,rfl⟩:=rx;exact SeqAt.EqAt.int_str a t' b t
   | _=>exact absurd (show false=true from fx) aad
 | str a=>
   obtain⟨t',rfl⟩:=ry
   cases x with
   | jv=>cases rx;exact SeqAt.EqAt.str_none a t'
   | bl b=>cases rx;exact SeqAt.EqAt.str_bool a t' b
   | int b=>obtain⟨t,rfl⟩:=rx;exact SeqAt.EqAt.str_int a t' b t
   | str b=>obtain⟨t,rfl⟩:=rx;exact SeqAt.EqAt.str_str a t' b t
   | _=>exact absurd (show false=true from fx) aad
 | _=>exact absurd (show false=true from fy) aad
def K5(x:V)(u:Value):Bool:=match u with
 | .none=>Gk .jv x
 | .bool b=>Gk (.bl b) x
 | .int i _=>Gk (.int i) x
 | .str z _=>Gk (.str z) x
 | _=>false
theorem ID{x y:V}{u:Value}(r:RelV y u)(f:lV y=true):K5 x u=Gk y x:=by
 cases y with
 | jv=>cases r;rfl
 | bl b=>cases r;rfl
 | int i=>obtain⟨t,rfl⟩:=r;rfl
 | str z=>obtain⟨t,rfl⟩:=r;rfl
 | _=>exact absurd (show false=true from f) aad
theorem BR{x:V}:∀{xs:List V} {us:List Value},Vals xs us→xs.all lV=true→us.any (K5 x)=xs.any fun y=>Gk y x
 | _,_,.nil,_=>rfl
 | y::xs,u::us,.cons r t,f=>by
   rw[List.all_cons,aaX] at f
   rw[List.any_cons,List.any_cons,ID r f.1,BR t f.2]
theorem yP{A:Around}{s:Shared}{x:V}{v:Value}(rx:RelV x v)(fx:lV x=true):∀{xs:List V} {us:List Value},Vals xs us→xs.all lV=true→∀u∈us,SeqAt.EqAt A s u v (K5 x u)
 | _,_,.nil,_=>fun u hu=>by cases hu
 | y::xs,u::us,.cons r t,f=>fun u' hu=>by
   rw[List.all_cons,aaX] at f
   rcases XU.mp hu with rfl|hu
   · rw[ID r f.1];exact IC r rx f.1 fx
   · exact yP rx fx t f.2 u' hu
def Qj(x:V)(xs:List V):Bool:=xs.any fun y=>Gk y x
def rIn(K:PySem.W.Frag)(neg:Bool):R2:=fun x y H Q=>∃p xs,y=.ref p∧(hV K H p xs∨vK K H p xs)∧lV x=true∧xs.all lV=true∧Q (.bl (if neg then !Qj x xs else Qj x xs)) H
theorem Hf:xX X (compareOp .In) (rIn X.K false):=by
 intro pins s σ H x y v u Q I rx ry h
 obtain⟨p,xs,rfl,hq,fx,fs,q⟩:=h
 cases ry
 rcases hq with hq|hq
 · obtain⟨hX,r,pl,hz⟩:=I.list hq
   refine SeqAt.in_listAt (K5 x) pl.isList (fun w hw=>yP rx fx r fs w (by simpa using hw)) ⟨.bl _,H,I,rfl,?_⟩
   rw[show hX.toArray.any (K5 x)=hX.any (K5 x) by simp,BR r fs]
   exact q
 · obtain⟨hX,r,pl,hz⟩:=I.tuple hq
   refine SeqAt.in_tupleAt (K5 x) pl (fun w hw=>yP rx fx r fs w (by simpa using hw)) ⟨.bl _,H,I,rfl,?_⟩
   rw[show hX.toArray.any (K5 x)=hX.any (K5 x) by simp,BR r fs]
   exact q
theorem gr:uC X (.builtin "len") (fun xs H Q=>∃p ys,xs=[.ref p]∧(hV X.K H p ys∨vK X.K H p ys)∧Q (.int ys.length) H):=by
 intro pins s σ H xs us Q I r h
 obtain⟨p,ys,rfl,hq,q⟩:=h
 obtain⟨u,rfl,rx⟩:=vals1 r
 cases rx
 have hn:=tS
 rcases hq with hq|hq
 · obtain⟨hX,r',pl,hz⟩:=I.list hq
   have hlen:=r'.length
   exact Calls.call_len_list pl.isList (by simp only [aae]<;>omega) ⟨.int ys.length,H,I.tok _,⟨s.toks+1,by rw[aae,hlen]⟩,q⟩
 · obtain⟨hX,r',pl,hz⟩:=I.tuple hq
   have hlen:=r'.length
   exact len_tuple pl (by simp only [aae]<;>omega) ⟨.int ys.length,H,I.tok _,⟨s.toks+1,by rw[aae,hlen]⟩,q⟩
theorem uH:uC X (.builtin "len") (fun xs H Q=>∃z,xs=[.str z]∧z.length≤sizeLine∧Q (.int z.length) H):=by
 intro pins s σ H xs us Q I r h
 obtain⟨z,rfl,hz,q⟩:=h
 obtain⟨u,rfl,t,rfl⟩:=vals1 r
 have hn:=tS
 exact len_str (by omega) ⟨.int z.length,H,I.tok _,⟨_,rfl⟩,q⟩
theorem BS:uC X (.type "list") (fun xs H Q=>∃p ys,xs=[.ref p]∧(hV X.K H p ys∨vK X.K H p ys)∧∀l,H l=none→Q (.ref l) (upd H l (.lst ys))):=by
 intro pins s σ H xs us Q I r h
 obtain⟨p,ys,rfl,hq,q⟩:=h
 obtain⟨u,rfl,rx⟩:=vals1 r
 cases rx
 have fin:∀(hX:List Value),Vals ys hX→ys.length≤sizeLine→∀(h':Heap)(c':Nat),(∀b o',s.heap.get? b=some o'→h'.get? b=some o')→
     h'.get? s.heap.objs.size=some {cls:=.type "list",dict:=none,data:=.seq hX.toArray c',slots:=#[]}→EP X pins σ Q (.ref s.heap.objs.size) {s with heap:=h'}:=fun hX r' hz h' c' kp e=>
   ⟨.ref s.heap.objs.size,_,I.laid (t':=s.toks) kp (UU _) (show i9 X.prog X.w _ h' _ (.lst ys) from ⟨hz,hX,c',r',e⟩),rfl,q _ (I.iG.fresh (UU _))⟩
 rcases hq with hq|hq
 · obtain⟨hX,r',pl,hz⟩:=I.list hq
   have hlen:=r'.length
   obtain⟨o,ho,hc,n,hd⟩:=pl.isList
   exact call_list_seq p (.inl rfl) ho hc hd (fun h' c' kp e=>fin hX r' hz h' c' kp e) (by simp only [aae]<;>omega)
 · obtain⟨hX,r',pl,hz⟩:=I.tuple hq
   have hlen:=r'.length
   obtain⟨o,ho,hc,n,hd⟩:=pl
   exact call_list_seq p (.inr rfl) ho hc hd (fun h' c' kp e=>fin hX r' hz h' c' kp e) (by simp only [aae]<;>omega)
def UE(K:PySem.W.Frag)(T:String)(x:V)(H:Hp):Prop:=match x with
 | .str _=>T="str"
 | .int _=>T="int"
 | .ref p=>(T="list"∧∃xs,hV K H p xs)∨(T="tuple"∧∃o,K.lookup p=some o∧o.cls=.type "tuple"∧o.dict=none)∨
     (T="dict"∧((∃kvs,H p=some (.dK kvs))∨∃kvs,H p=some (.dT kvs)))∨(T="set"∧∃S n,H p=some (.set S n))
 | _=>False
theorem IE{pins:List (Addr×Obj)}{σ:St}{H:Hp}{s:Shared}{T:String}{x:V}{v:Value}(I:Inv X pins σ H s)(r:RelV x v)(ty:UE X.K T x H) :
   s.TypeIs v T∧∀a,v=.ref a→∃ob,s.heap.get? a=some ob∧ob.dict=none:=by
 cases x with
 | str z=>
   obtain⟨t,rfl⟩:=r
   cases (show T="str" from ty)
   exact⟨typeIs_str s z t,fun _ e=>nomatch e⟩
 | int i=>
   obtain⟨t,rfl⟩:=r
   cases (show T="int" from ty)
   exact⟨typeIs_int s i t,fun _ e=>nomatch e⟩
 | ref p=>
   cases r
   rcases ty with⟨rfl,xs,hq⟩|⟨rfl,o,hk,hc,hd⟩|⟨rfl,hk⟩|⟨rfl,S,n,hk⟩
   · obtain⟨hX,_,pl,_⟩:=I.list hq
     refine⟨pl.isList.typeIs,fun a e=>?_⟩
     cases e
     obtain⟨o,n,e,c,hd,_⟩:=pl
     exact⟨o,e,hd⟩
   · refine⟨⟨o,I.Az p o hk,hc⟩,fun a e=>?_⟩
     cases e
     exact⟨o,I.Az _ o hk,hd⟩
   · have z:∃o,s.heap.get? p=some o∧o.ExactDict:=by
       rcases hk with⟨kvs,hk⟩|⟨kvs,hk⟩
       · obtain⟨_,_,_,_,o,_,_,e,ex,_⟩:=I.iG p _ hk
         exact⟨o,e,ex⟩
       · obtain⟨_,_,_,_,o,_,_,e,ex,_⟩:=I.iG p _ hk
         exact⟨o,e,ex⟩
     obtain⟨o,e,ex⟩:=z
     refine⟨⟨o,e,ex.1⟩,fun a e2=>?_⟩
     cases e2
     exact⟨o,e,ex.2.1⟩
   · obtain⟨o,_,_,_,e,ex,_⟩:=I.iG p _ hk
     refine⟨⟨o,e,ex.1⟩,fun a e2=>?_⟩
     cases e2
     exact⟨o,e,ex.2.1⟩
 | _=>exact False.elim ty
def UG(K:PySem.W.Frag)(T:String)(r:V→List V→Hp→VK→Prop)(to:TE):TE:=fun σ H Q=>to σ H fun x H1=>UE K T x H1∧r x [] H1 Q
def tBM(K:PySem.W.Frag)(T:String)(r:V→List V→Hp→VK→Prop)(to:TE)(t:TA):TE:=fun σ H Q=>to σ H fun x H1=>UE K T x H1∧t σ H1 fun xs H2=>r x xs H2 Q
variable{o e:Expr}{es:List Expr}{to:TE}{t:TA}{name:Str}{apos kP:Pos}{T id:String}{r:V→List V→Hp→VK→Prop}
theorem Ni(pa:PlainAttrs T)(slot:Slot T name id)(Ra:typeOf (.builtin id)=pure (.type "method_descriptor"))(hm:Uz X id r)(ho:PE X o to)
   (Kd:attributeBase o name X.env (eval o X.env)=eval o X.env:=by rfl) (Ke:(apos.endLine ==kP.line)=true:=by rfl):PE X (.Call (.Attribute o name apos) [] [] kP) (UG X.K T r to):=by
 intro pins s σ H Q I h
 refine wpAny_Call_method0_late Kd Ke (iY (ho pins s σ H _ I h) fun v s1 ⟨x,H1,I1,r1,ty,q1⟩=>?_)
 obtain⟨h1,h2⟩:=IE I1 r1 ty
 exact⟨T,id,pa,slot,Ra,h1,h2,Calls.callWith_builtin rfl (PySem.evalArgs_none (hm pins s1 σ H1 x [] v [] Q I1 r1 .nil q1))⟩
theorem qy(pa:PlainAttrs T)(slot:Slot T name id)(Ra:typeOf (.builtin id)=pure (.type "method_descriptor"))(hm:Uz X id r)(ho:PE X o to)(ha:PA X (e::es) t)
   (Kd:attributeBase o name X.env (eval o X.env)=eval o X.env:=by rfl)
   (Vf:((backTo kP (starEach (e::es) X.env)).all (fun x=>!x.1)&&(backToKw kP (keywordEach [] X.env)).all (fun x=>x.1.isSome)
     &&decide ((e::es).length+([]:List Keyword).length+(if([]:List Keyword).isEmpty then 0 else 1)<30))=true:=by rfl)
   (Ke:(apos.endLine ==kP.line)=true:=by rfl) (hs:starEach (e::es) X.env=(false,eval e X.env)::starEach es X.env:=by rfl) (OF:(backTo kP (starEach es X.env)).any (·.1)=false:=by rfl) :
   PE X (.Call (.Attribute o name apos) (e::es) [] kP) (tBM X.K T r to t):=by
 intro pins s σ H Q I h
 refine wpAny_Call_method_late Kd Vf Ke rfl (iY (ho pins s σ H _ I h) fun v s1 ⟨x,H1,I1,r1,ty,q1⟩=>?_)
 obtain⟨h1,h2⟩:=IE I1 r1 ty
 refine⟨T,id,pa,slot,Ra,h1,h2,?_⟩
 have hA:=ha kP pins s1 σ H1 _ I1 q1
 rw[hs] at hA ⊢
 refine Calls.callWith_builtin (by show(false||(backTo kP (starEach es X.env)).any (·.1))=false;rw[OF]<;>rfl) (Calls.evalArgs_plain ?_)
 exact iY hA fun us s2 ⟨vs,H2,I2,r2,q2⟩=>hm pins s2 σ H2 x vs v us Q I2 r1 r2 q2
end
def UH(X:Cx)(id:String)(r:V→List V→Hp→VK→Prop):Prop:=
 ∀(pins:List (Addr×Obj))(s:Shared)(σ:St)(H:Hp)(x:V)(xs:List V)(v:Value)(us:List Value)(Q:VK),Inv X pins σ H s→RelV x v→Vals xs us→r x xs H Q→
   wpAny (model X.prog X.w) X.A (call (.builtin id) (v::us)) (EP X pins σ Q) X.xe s
theorem Vals.one:∀{x:V} {us:List Value},Vals [x] us→∃u,us=[u]∧RelV x u
 | _,_,.cons r .nil=>⟨_,rfl,r⟩
theorem Vals.zero:∀{us:List Value},Vals [] us→us=[]
 | _,.nil=>rfl
theorem Vals.dropLast{xs:List V}{us:List Value}(h:Vals xs us):Vals xs.dropLast us.dropLast:=by
 induction h with
 | nil=>exact .nil
 | cons r t ih=>
   cases t with
   | nil=>exact .nil
   | cons q t'=>exact .cons r ih
theorem Vals.rep{xs:List V}{us:List Value}(h:Vals xs us):∀k:Nat,Vals (List.replicate k xs).flatten (List.replicate k us).flatten
 | 0=>.nil
 | k+1=>by
   rw[aa2,aa2,abr,abr]
   exact Vals.append h (Vals.rep h k)
theorem E9{α:Type}(l:List α):l.eraseIdx (l.length-1)=l.dropLast:=by
 induction l with
 | nil=>rfl
 | cons a r ih=>
   cases r with
   | nil=>rfl
   | cons b r=>
     have e:(a::b::r).length-1=((b::r).length-1)+1:=by
       have h1:(a::b::r).length=r.length+2:=rfl
       have h2:(b::r).length=r.length+1:=rfl
       omega
     rw[e,List.eraseIdx_cons_succ,ih]
     all_goals rfl
theorem foldl_rep(hX:List Value):∀(k:Nat)(acc:List Value),
   List.foldl (fun x1 x2=>x1++x2) acc.toArray (List.replicate k hX.toArray)=(acc++(List.replicate k hX).flatten).toArray
 | 0,acc=>by simp
 | k+1,acc=>by
   have e:acc.toArray++hX.toArray=(acc++hX).toArray:=by simp
   have e2:(acc++hX)++(List.replicate k hX).flatten=acc++(List.replicate (k+1) hX).flatten:=by
     rw[aa2,abr,aaK]
   rw[←e2,←foldl_rep hX k (acc++hX),←e,aa2,List.foldl_cons]
section
variable{X:Cx}{pins:List (Addr×Obj)}{σ:St}{H:Hp}{s:Shared}{l b:Addr}{xs ys zs:List V}
theorem Inv.Nj{hX its':List Value}{n:Nat}{f:Array Value→Array Value}{t':Nat}(I:Inv X pins σ H s)(hH:H l=some (.lst xs))
   (e:s.heap.get? l=some {cls:=.type "list",data:=.seq hX.toArray n}) (hf:f hX.toArray=its'.toArray) (hv:Vals ys its') (hz:ys.length≤sizeLine) :
   Inv X pins σ (upd H l (.lst ys)) {s with heap:=s.heap.update l (Obj.mapSeq f),toks:=t'}:=by
 have q:=PySem.IsL.update e f
 rw[hf] at q
 refine I.write (x:=l) (e:=l) (by rw[hH];exact trivial) (.inl rfl) (fun b' u hb hu=>(Heap.get?_update_other s.heap (Obj.mapSeq f) (Ne.symm hb)).trans hu) ⟨_,q⟩ ?_
 exact⟨hz,its',_,hv,q⟩
theorem Inv.K6{hX:List Value}{t':Nat}(I:Inv X pins σ H s)(hv:Vals ys hX)(hz:ys.length≤sizeLine) :
   Inv X pins σ (upd H s.heap.objs.size (.lst ys)) {s with heap:=s.heap.push {cls:=.type "list",data:=.seq hX.toArray},toks:=t'}:=
 I.laid (fun _ _ q=>Heap.get?_push_of_some _ q) (UU _) ⟨hz,hX,0,hv,Heap.get?_push_size _ rfl⟩
theorem Inv.fresh(I:Inv X pins σ H s):H s.heap.objs.size=none:=I.iG.fresh (UU _)
theorem Inv.E_(I:Inv X pins σ H s)(hH:H l=some (.lst xs)):xs.length≤sizeLine∧∃(hX:List Value)(n:Nat),Vals xs hX∧xs.length=hX.length∧s.heap.get? l=some {cls:=.type "list",data:=.seq hX.toArray n}:=by
 obtain⟨z,hX,n,r,e⟩:=I.iG l _ hH
 exact⟨z,hX,n,r,r.length,e⟩
theorem Dz{n:Nat}(h:n≤sizeLine):Builtin.List.listTooLong n=false:=by
 unfold Builtin.List.listTooLong
 exact XX (by omega)
end
section
variable{X:Cx}
def K7:V→List V→Hp→VK→Prop:=fun x vs H Q=>∃l xs y,x=.ref l∧vs=[y]∧H l=some (.lst xs)∧xs.length<sizeLine∧Q .jv (upd H l (.lst (xs++[y])))
theorem kF:UH X "list.append" K7:=by
 intro pins s σ H x vs v us Q I rx rv h
 obtain⟨l,xs,y,rfl,rfl,hH,hz,q⟩:=h
 cases rx
 obtain⟨u,rfl,ru⟩:=rv.one
 obtain⟨z,hX,n,r,hl,e⟩:=I.E_ hH
 refine call_meets F.slot_list_append ⟨_,e,rfl⟩ F.entry_list_append (F.args_list_append_2 _ _) (PySem.list_append l hX.toArray n u (by rw[aae];omega)) ⟨e,?_⟩
 refine⟨.jv,_,I.Nj (its':=hX++[u]) hH e (by simp) (r.append (.cons ru .nil)) ?_,rfl,q⟩
 rw[VO,List.length_singleton]
 omega
def K8:V→List V→Hp→VK→Prop:=fun x vs H Q=>∃l b xs zs,x=.ref l∧vs=[.ref b]∧H l=some (.lst xs)∧H b=some (.lst zs)∧xs.length+zs.length≤sizeLine∧Q .jv (upd H l (.lst (xs++zs)))
theorem A_:UH X "list.extend" K8:=by
 intro pins s σ H x vs v us Q I rx rv h
 obtain⟨l,b,xs,zs,rfl,rfl,hH,hB,hz,q⟩:=h
 cases rx
 obtain⟨u,rfl,ru⟩:=rv.one
 cases ru
 obtain⟨z,hX,n,r,hl,e⟩:=I.E_ hH
 obtain⟨z2,lS,n2,r2,EN,e2⟩:=I.E_ hB
 have hsz:hX.toArray.size+lS.toArray.size≤sizeLine:=by rw[aae,aae];omega
 have Kf:¬(!hX.toArray.isEmpty&&Builtin.List.listTooLong (hX.toArray.size+lS.toArray.size))=true:=by
   rw[Dz hsz,Bool.and_false]
   exact aad
 refine call_meets F.slot_list_extend ⟨_,e,rfl⟩ F.entry_list_extend (F.args_list_extend_2 _ _)
   (AutoSeq1.list_extend_list_list_0 l hX.toArray n b lS.toArray n2 Kf (by rw[aae];omega) (by omega)) ⟨e,e2,?_⟩
 refine⟨.jv,_,I.Nj (its':=hX++lS) hH e (by simp) (r.append r2) ?_,rfl,q⟩
 rw[VO]
 omega
def UI:V→List V→Hp→VK→Prop:=fun x vs H Q=>∃l xs y,x=.ref l∧vs=[]∧H l=some (.lst xs)∧xs[xs.length-1]?=some y∧Q y (upd H l (.lst xs.dropLast))
theorem Nk:UH X "list.pop" UI:=by
 intro pins s σ H x vs v us Q I rx rv h
 obtain⟨l,xs,y,rfl,rfl,hH,hy,q⟩:=h
 cases rx
 have hus:=rv.zero
 subst hus
 obtain⟨z,hX,n,r,hl,e⟩:=I.E_ hH
 obtain⟨u,hu,ru⟩:=r.get hy
 have Tc:hX.toArray[hX.toArray.size-1]?=some u:=by
   show hX.toArray[hX.length-1]?=some u
   rw[←aaY,←hl]
   exact hu
 refine call_meets F.slot_list_pop ⟨_,e,rfl⟩ F.entry_list_pop (F.args_list_pop_1 _) (MeetsSeq.list_pop_last l hX.toArray n u Tc (by rw[aae];omega)) ⟨e,?_⟩
 refine⟨y,_,I.Nj (its':=hX.dropLast) hH e ?_ r.dropLast ?_,ru,q⟩
 · show hX.toArray.eraseIdxIfInBounds (hX.toArray.size-1)=hX.dropLast.toArray
   rw[aae,List.eraseIdxIfInBounds_toArray,E9]
 · rw[List.length_dropLast]
   omega
def UJ:R2:=fun x y H Q=>∃l b xs zs,x=.ref l∧y=.ref b∧H l=some (.lst xs)∧H b=some (.lst zs)∧xs.length+zs.length≤sizeLine∧∀p,H p=none→Q (.ref p) (upd H p (.lst (xs++zs)))
theorem kZ:xX X (binaryOp .Add) UJ:=by
 intro pins s σ H x y v u Q I rx ry h
 obtain⟨l,b,xs,zs,rfl,rfl,hH,hB,hz,q⟩:=h
 cases rx
 cases ry
 obtain⟨z,hX,n,r,hl,e⟩:=I.E_ hH
 obtain⟨z2,lS,n2,r2,EN,e2⟩:=I.E_ hB
 refine PySem.P.add_list e e2 ?_ (by rw[aae,aae];omega)
 have ea:hX.toArray++lS.toArray=(hX++lS).toArray:=by simp
 rw[ea]
 exact⟨.ref _,_,I.K6 (t':=s.toks) (r.append r2) (by rw[VO];omega),rfl,q _ I.fresh⟩
def UK:R2:=fun x y H Q=>∃l k xs,x=.ref l∧y=.int k∧H l=some (.lst xs)∧-(2 ^ 63)≤k∧k<2 ^ 63∧xs.length*k.toNat≤sizeLine∧
 ∀p,H p=none→Q (.ref p) (upd H p (.lst (List.replicate k.toNat xs).flatten))
theorem len_rep{α:Type}(xs:List α)(k:Nat):(List.replicate k xs).flatten.length=k*xs.length:=by
 induction k with
 | zero=>simp
 | succ k ih=>rw[aa2,abr,VO,ih,Nat.succ_mul,Nat.add_comm]
theorem Fb:xX X (binaryOp .Mult) UK:=by
 intro pins s σ H x y v u Q I rx ry h
 obtain⟨l,k,xs,rfl,rfl,hH,h1,h2,hz,q⟩:=h
 cases rx
 obtain⟨t,rfl⟩:=ry
 obtain⟨z,hX,n,r,hl,e⟩:=I.E_ hH
 have hlen:hX.toArray.size*k.toNat≤sizeLine:=by rw[aae,←hl];exact hz
 have Vg:¬hX.toArray.size*k.toNat>(2 ^ 63-1)/8:=by
   have:(sizeLine:Nat)≤(2 ^ 63-1)/8:=by decide
   omega
 have Vh:¬(!Builtin.List.listFitsIndex k)=true:=by
   rw[fitsIndex_both h1 h2]
   exact aad
 have Kf:¬Builtin.List.listTooLong (hX.toArray.size*k.toNat)=true:=by
   rw[Dz hlen]
   exact aad
 have OG:List.foldl (fun x1 x2=>x1++x2) #[] (List.replicate (if hX.toArray.isEmpty=true then 0 else k.toNat) hX.toArray)=(List.replicate k.toNat hX).flatten.toArray:=by
   have f0:∀m:Nat,List.foldl (fun x1 x2=>x1++x2) #[] (List.replicate m hX.toArray)=(List.replicate m hX).flatten.toArray:=fun m=>by
     have:=foldl_rep hX m []
     rw[List.nil_append] at this
     exact this
   rw[f0]
   cases hX with
   | nil=>simp
   | cons a r'=>rw[aak (by simp)]
 refine wpAny_binaryOp_repeat_ref (T:="list") (U:="int") (by decide) ⟨_,e,rfl⟩ (fun s'=>typeIs_int s' k t) noFill_list_mul F.fills_int_mul F.slot_int_rmul repeat_list F.slot_int_index.lookup
   (call_meets F.slot_int_rmul (typeIs_int s k t) F.entry_int_rmul (F.args_int_rmul_2 _ _) (int___rmul___int_list k t l hX.toArray n)
     ⟨e,rfl,⟨_,e,rfl⟩,call_meets F.slot_list_mul ⟨_,e,rfl⟩ F.entry_list_mul (F.args_list_mul_2 _ _) (AutoListH.list___mul___list_int_3 l hX.toArray n k t Vh Vg Kf) ⟨e,?_⟩⟩)
 rw[OG]
 exact⟨.ref _,_,I.K6 (t':=s.toks) (r.rep k.toNat) (by rw[len_rep,Nat.mul_comm];exact hz),rfl,q _ I.fresh⟩
end
section
variable{prog:Program}{w:World}{A:Around}{E:Value→Shared→Prop}{s:Shared}
end
section
variable{X:Cx}
end
section
variable{κ:Type}[DecidableEq κ]
def iL(kvs:List (κ×V))(k:κ):Option V:=(kvs.find? fun kv=>decide (kv.1=k)).map (·.2)
def putK(kvs:List (κ×V))(k:κ)(v:V):List (κ×V):=
 if(kvs.any fun kv=>decide (kv.1=k))=true then kvs.map (fun kv=>if kv.1=k then(kv.1,v) else kv) else kvs++[(k,v)]
def jS(kvs:List (κ×V))(k:κ):List (κ×V):=kvs.filter fun kv=>decide (kv.1≠k)
theorem je{p:κ×V}{r:List (κ×V)}{k:κ}(e:p.1=k):iL (p::r) k=some p.2:=by simp[iL,abC,e]
theorem i_{p:κ×V}{r:List (κ×V)}{k:κ}(e:¬p.1=k):iL (p::r) k=iL r k:=by simp[iL,abC,e]
theorem qV(k:κ):∀kvs:List (κ×V),(kvs.any fun kv=>decide (kv.1=k))=(iL kvs k).isSome
 | []=>rfl
 | p::r=>by
   rw[List.any_cons]
   by_cases e:p.1=k
   · simp only [je e,UW e,Bool.true_or,Option.isSome_some]
   · rw[i_ e,XX e,Bool.false_or];exact qV k r
theorem DA(k j:κ)(y:V):∀kvs:List (κ×V),iL (kvs.map fun kv=>if kv.1=k then(kv.1,y) else kv) j=(iL kvs j).map fun x=>if j=k then y else x
 | []=>rfl
 | p::r=>by
   have ih:=DA k j y r
   rw[aao]
   by_cases h:p.1=k
   · rw[aap h]
     by_cases e:p.1=j
     · rw[je (p:=(p.1,y)) e,je e,abD,aap (e.symm.trans h)]
     · rw[i_ (p:=(p.1,y)) e,i_ e,ih]
   · rw[aak h]
     by_cases e:p.1=j
     · rw[je (p:=p) e,je e,abD,aak (fun z=>h (e.trans z))]
     · rw[i_ (p:=p) e,i_ e,ih]
theorem Ba(k j:κ)(y:V):∀kvs:List (κ×V),iL kvs k=none→iL (kvs++[(k,y)]) j=if j=k then some y else iL kvs j
 | [],_=>by
   by_cases e:k=j
   · rw[aap e.symm];exact je (p:=(k,y)) e
   · rw[aak (fun z=>e z.symm)];exact i_ (p:=(k,y)) e
 | p::r,hn=>by
   rw[List.cons_append]
   have hk:¬p.1=k:=fun z=>by rw[je z] at hn;cases hn
   rw[i_ hk] at hn
   have ih:=Ba k j y r hn
   by_cases e:p.1=j
   · rw[je e,je e,aak (fun z=>hk (e.trans z))]
   · rw[i_ e,i_ e,ih]
theorem j8(kvs:List (κ×V))(k j:κ)(y:V):iL (putK kvs k y) j=if j=k then some y else iL kvs j:=by
 unfold putK
 by_cases a:(kvs.any fun kv=>decide (kv.1=k))=true
 · rw[aap a,DA]
   rw[qV] at a
   by_cases e:j=k
   · obtain⟨x,hx⟩:=Option.isSome_iff_exists.mp a
     rw[aap e,e,hx,abD,aap rfl]
   · rw[aak e]
     cases iL kvs j with
     | none=>rfl
     | some x=>rw[abD,aak e]
 · rw[aak a]
   refine Ba k j y kvs ?_
   rw[qV] at a
   cases q:iL kvs k with
   | none=>rfl
   | some x=>rw[q] at a;exact(a rfl).elim
theorem jn(kvs:List (κ×V))(k:κ)(v:V):(putK kvs k v).length≤kvs.length+1:=by
 unfold putK
 split
 · rw[RF];omega
 · rw[VO,XT,List.length_nil];omega
theorem DB{kvs:List (κ×V)}{k:κ}(v:V)(h:iL kvs k=none):putK kvs k v=kvs++[(k,v)]:=by
 unfold putK
 rw[qV,h]
 exact aak (by decide)
theorem o5.o7{o:Option V}{u:Option Value}(r:o5 o u):o.isSome=u.isSome:=by
 cases o with
 | none=>cases u with
   | none=>rfl
   | some _=>exact(show False from r).elim
 | some _=>cases u with
   | none=>exact(show False from r).elim
   | some _=>rfl
theorem o5.getD{o:Option V}{u:Option Value}{d:V}{d':Value}(r:o5 o u)(rd:RelV d d'):RelV (o.getD d) (u.getD d'):=by
 cases o with
 | none=>cases u with
   | none=>exact rd
   | some _=>exact(show False from r).elim
 | some _=>cases u with
   | none=>exact(show False from r).elim
   | some _=>exact r
theorem KV.val{kvs:List (κ×V)}{vs:List (κ×Value)}(r:KV kvs vs)(k:κ):o5 (iL kvs k) (valueAt vs k):=by
 unfold KV at r
 induction r with
 | nil=>exact True.intro
 | @cons p q ps qs h t ih=>
   obtain⟨h1,h2⟩:=h
   by_cases e:p.1=k
   · have e':q.1=k:=h1.symm.trans e
     have b:valueAt (q::qs) k=some q.2:=by simp[valueAt,abC,e']
     rw[je e,b];exact h2
   · have e':¬q.1=k:=fun z=>e (h1.trans z)
     have b:valueAt (q::qs) k=valueAt qs k:=by simp[valueAt,abC,e']
     rw[i_ e,b];exact ih
theorem KV.any{kvs:List (κ×V)}{vs:List (κ×Value)}(r:KV kvs vs)(k:κ):(kvs.any fun kv=>decide (kv.1=k))=vs.any fun kv=>decide (kv.1=k):=by
 unfold KV at r
 induction r with
 | nil=>rfl
 | cons h t ih=>rw[List.any_cons,List.any_cons,ih,h.1]
theorem KV.Nl{kvs:List (κ×V)}{vs:List (κ×Value)}(r:KV kvs vs)(k:κ){y:V}{u:Value}(ry:RelV y u) :
   KV (kvs.map fun kv=>if kv.1=k then(kv.1,y) else kv) (vs.map fun kv=>if kv.1=k then(kv.1,u) else kv):=by
 unfold KV at r ⊢
 induction r with
 | nil=>exact .nil
 | @cons p q ps qs h t ih=>
   rw[aao,aao]
   refine .cons ?_ ih
   obtain⟨h1,h2⟩:=h
   by_cases e:p.1=k
   · rw[aap e,aap (h1.symm.trans e)];exact⟨h1,ry⟩
   · rw[aak e,aak (fun z=>e (h1.trans z))];exact⟨h1,h2⟩
theorem KV.put{kvs:List (κ×V)}{vs:List (κ×Value)}(r:KV kvs vs)(k:κ){y:V}{u:Value}(ry:RelV y u):KV (putK kvs k y) (stored vs k u):=by
 unfold putK stored
 rw[r.any k]
 by_cases e:(vs.any fun kv=>decide (kv.1=k))=true
 · rw[aap e,aap e];exact r.Nl k ry
 · rw[aak e,aak e];exact Paired.snoc r ⟨rfl,ry⟩
theorem KV.drop{kvs:List (κ×V)}{vs:List (κ×Value)}(r:KV kvs vs)(k:κ):KV (jS kvs k) (without vs k):=by
 unfold KV at r ⊢
 unfold jS without
 induction r with
 | nil=>exact .nil
 | @cons p q ps qs h t ih=>
   obtain⟨h1,h2⟩:=h
   rw[List.filter_cons,List.filter_cons]
   by_cases e:p.1=k
   · have a:¬decide (p.1≠k)=true:=by simp[e]
     have b:¬decide (q.1≠k)=true:=by simp[h1.symm.trans e]
     rw[aak a,aak b];exact ih
   · have e':¬q.1=k:=fun z=>e (h1.trans z)
     have a:decide (p.1≠k)=true:=by simp[e]
     have b:decide (q.1≠k)=true:=by simp[e']
     rw[aap a,aap b];exact .cons ⟨h1,h2⟩ ih
theorem KV.length{kvs:List (κ×V)}{vs:List (κ×Value)}(r:KV kvs vs):kvs.length=vs.length:=Paired.length r
theorem DC(kvs:List (κ×V))(k:κ):(jS kvs k).length≤kvs.length:=aaH _ _
end
theorem yQ{P:Program}{w:World}{k:Key}{u:Value}(r:RelV (kV k) u):(i6 P w).is k u=true:=by
 cases k with
 | inl i=>obtain⟨t,e⟩:=(show ∃t,u=Value.int i t from r);subst e;exact Dd P w i t
 | inr x=>obtain⟨t,e⟩:=(show ∃t,u=Value.str x t from r);subst e;exact De P w x t
theorem Bb{P:Program}{w:World}:∀{ks:List Key} {us:List Value},Vals (ks.map kV) us→ItemsAre (i6 P w) ks us
 | [],_,r=>by rw[List.map_nil] at r;cases r;exact .nil
 | k::ks,_,r=>by
   rw[aao] at r
   cases r with
   | cons h t=>exact .cons (yQ h) (Bb t)
abbrev KT(H:Hp):List (List Key×V)→List (List Key×Addr×Value)→Prop:=Paired fun p q=>p.1=q.1∧H q.2.1=some (.tup (p.1.map kV))∧RelV p.2 q.2.2
theorem KT.val{H:Hp}{kvs:List (List Key×V)}{xs:List (List Key×Addr×Value)}(r:KT H kvs xs)(k:List Key):o5 (iL kvs k) ((atKey xs k).map (·.2)):=by
 induction r with
 | nil=>exact True.intro
 | @cons p q ps qs h t ih=>
   obtain⟨h1,_,h2⟩:=h
   by_cases e:p.1=k
   · have e':q.1=k:=h1.symm.trans e
     have b:atKey (q::qs) k=some q.2:=by simp[atKey,abC,e']
     rw[je e,b];exact h2
   · have e':¬q.1=k:=fun z=>e (h1.trans z)
     have b:atKey (q::qs) k=atKey qs k:=by simp[atKey,abC,e']
     rw[i_ e,b];exact ih
theorem KT.Nl{H:Hp}{kvs:List (List Key×V)}{xs:List (List Key×Addr×Value)}(r:KT H kvs xs)(k:List Key){y:V}{u:Value}(ry:RelV y u) :
   KT H (kvs.map fun kv=>if kv.1=k then(kv.1,y) else kv) (xs.map (putAt k u)):=by
 induction r with
 | nil=>exact .nil
 | @cons p q ps qs h t ih=>
   rw[aao,aao]
   refine .cons ?_ ih
   obtain⟨h1,h2,h3⟩:=h
   unfold putAt
   by_cases e:p.1=k
   · rw[aap e,aap (h1.symm.trans e)];exact⟨h1,h2,ry⟩
   · rw[aak e,aak (fun z=>e (h1.trans z))];exact⟨h1,h2,h3⟩
theorem KT.put{H:Hp}{kvs:List (List Key×V)}{xs:List (List Key×Addr×Value)}(r:KT H kvs xs)(k:List Key){b:Addr}{y:V}{u:Value}(hb:H b=some (.tup (k.map kV)))(ry:RelV y u) :
   KT H (putK kvs k y) (storedH xs k b u):=by
 have e:(kvs.any fun kv=>decide (kv.1=k))=(atKey xs k).isSome:=by
   rw[qV,(r.val k).o7,Option.isSome_map]
 unfold putK storedH
 rw[e]
 by_cases q:(atKey xs k).isSome=true
 · rw[aap q,aap q];exact r.Nl k ry
 · rw[aak q,aak q];exact Paired.snoc r ⟨rfl,hb,ry⟩
theorem KT.keeps{H H':Hp}{kvs:List (List Key×V)}{xs:List (List Key×Addr×Value)}(r:KT H kvs xs)(ht:∀b ys,H b=some (.tup ys)→H' b=some (.tup ys)):KT H' kvs xs:=
 Paired.kx r fun _ _ z=>⟨z.1,ht _ _ z.2.1,z.2.2⟩
section
variable{P:Program}{w:World}{H:Hp}{h:Heap}{a:Addr}
theorem Mq{u:HO}(ok:pN P w H h)(e:Rd H a u):i9 P w H h a u:=e.ok ok
theorem wX{kvs:List (Key×V)}(ok:pN P w H h)(e:Rd H a (.dK kvs)):kvs.length≤sizeLine∧(a ==sysModules)=false∧∃vs,KV kvs vs∧h.DictOf (i6 P w) a vs:=
 show i9 P w H h a (.dK kvs) from Mq ok e
theorem IF{kvs:List (Key×V)}(ok:pN P w H h)(e:H a=some (.dK kvs)):kvs.length≤sizeLine∧(a ==sysModules)=false∧∃vs,KV kvs vs∧h.DictOf (i6 P w) a vs:=wX ok (.inl e)
theorem tT{ks:List Key}(ok:pN P w H h)(e:H a=some (.tup (ks.map kV))):(tupleKind (i6 P w)).is h ks a:=by
 obtain⟨_,hX,r,o,h1,h2,n,h3⟩:=(show i9 P w H h a (.tup (ks.map kV)) from ok a _ e)
 exact⟨o,hX.toArray,n,h1,h2,h3,by simpa using Bb r⟩
theorem wY{kvs:List (List Key×V)}(ok:pN P w H h)(e:Rd H a (.dT kvs)):kvs.length≤sizeLine∧(a ==sysModules)=false∧
   ∃xs,KT H kvs xs∧h.DictOfH (tupleKind (i6 P w)) a xs:=by
 obtain⟨z,y,xs,r,o,es,ep,h1,h2,h3,h4,h5⟩:=(show i9 P w H h a (.dT kvs) from Mq ok e)
 refine⟨z,y,xs,r,o,es,ep,h1,h2,h3,h4,fun x hx=>?_,h5⟩
 have all:∀{l:List (List Key×V)} {m:List (List Key×Addr×Value)},KT H l m→∀x∈m,(tupleKind (i6 P w)).is h x.1 x.2.1:=by
   intro l m q
   induction q with
   | nil=>intro x hx;exact nomatch hx
   | @cons p q ps qs hq t ih=>
     intro x hx
     rcases XU.mp hx with e|hx
     · subst e
       exact tT ok (by rw[←hq.1];exact hq.2.1)
     · exact ih x hx
 exact all r x hx
theorem IG{kvs:List (List Key×V)}(ok:pN P w H h)(e:H a=some (.dT kvs)):kvs.length≤sizeLine∧(a ==sysModules)=false∧
   ∃xs,KT H kvs xs∧h.DictOfH (tupleKind (i6 P w)) a xs:=wY ok (.inl e)
end
def i3(H:Hp)(a:Addr)(y:V)(r:Option V):Prop:=
 (∃kvs k,Rd H a (.dK kvs)∧y=kV k∧r=iL kvs k)∨∃kvs k b,Rd H a (.dT kvs)∧y=.ref b∧H b=some (.tup (k.map kV))∧r=iL kvs k
def mY(H:Hp)(a:Addr)(y v:V)(H':Hp):Prop:=
 (∃kvs k,H a=some (.dK kvs)∧y=kV k∧kvs.length<sizeLine∧H'=upd H a (.dK (putK kvs k v)))∨
 ∃kvs k b,H a=some (.dT kvs)∧y=.ref b∧H b=some (.tup (k.map kV))∧kvs.length<sizeLine∧H'=upd H a (.dT (putK kvs k v))
theorem i3.k{H:Hp}{a:Addr}{kvs:List (Key×V)}{k:Key}(e:H a=some (.dK kvs)):i3 H a (kV k) (iL kvs k):=.inl ⟨kvs,k,.inl e,rfl,rfl⟩
theorem i3.t{H:Hp}{a b:Addr}{kvs:List (List Key×V)}{k:List Key}(e:H a=some (.dT kvs))(eb:H b=some (.tup (k.map kV))):i3 H a (.ref b) (iL kvs k):=.inr ⟨kvs,k,b,.inl e,rfl,eb,rfl⟩
theorem mY.k{H:Hp}{a:Addr}{kvs:List (Key×V)}{k:Key}{v:V}(e:H a=some (.dK kvs))(hl:kvs.length<sizeLine):mY H a (kV k) v (upd H a (.dK (putK kvs k v))):=.inl ⟨kvs,k,e,rfl,hl,rfl⟩
theorem mY.t{H:Hp}{a b:Addr}{kvs:List (List Key×V)}{k:List Key}{v:V}(e:H a=some (.dT kvs))(eb:H b=some (.tup (k.map kV)))(hl:kvs.length<sizeLine) :
   mY H a (.ref b) v (upd H a (.dT (putK kvs k v))):=.inr ⟨kvs,k,b,e,rfl,eb,hl,rfl⟩
section
variable{X:Cx}{pins:List (Addr×Obj)}{σ:St}{H:Hp}{s:Shared}{a:Addr}{y v:V}{u r:Value}{o:Option V}{A:Around}{E:Value→Shared→Prop}
theorem Inv.big(I:Inv X pins σ H s):sysModules<s.heap.objs.size:=by
 have h:mainGlobals<s.heap.objs.size:=(I.mod.glob.keeps I.bk).lt
 exact Nat.lt_trans (by decide) h
theorem Hg{Q:Value→Shared→Prop}(hu:A.units+1<cLine)(I:Inv X pins σ H s)(g:i3 H a y (some v))(ry:RelV y u)(h:∀w' s',Inv X pins σ H s'→RelV v w'→Q w' s') :
   wpAny (model X.prog X.w) A (getItem (.ref a) u) Q E s:=by
 rcases g with⟨kvs,k,e,ey,l⟩|⟨kvs,k,b,e,ey,eb,l⟩
 · subst ey
   obtain⟨z,hd,vs,rel,dd⟩:=wX I.iG e
   obtain⟨w',hw,AX⟩:=o5.some_of (v:=v) (o:=valueAt vs k) (by rw[l];exact rel.val k)
   exact wpAny_getItem_of (yQ ry) dd.mapOf hw (h w' _ (I.tok _) AX)
 · subst ey
   cases (show u=Value.ref b from ry)
   obtain⟨z,hd,xs,rel,dd⟩:=wY I.iG e
   obtain⟨w',hw,AX⟩:=o5.some_of (v:=v) (o:=(atKey xs k).map (·.2)) (by rw[l];exact rel.val k)
   obtain⟨p,hp,yi⟩:=aaA.mp hw
   refine wpAny_getItem_heap (tupleKind_room_in1 hu) (tT I.iG eb) dd hp ?_
   rw[yi]
   exact h w' _ (I.tok _) AX
theorem UL{Q:Value→Shared→Prop}(hu:A.units+1<cLine)(I:Inv X pins σ H s)(g:i3 H a y o)(ry:RelV y u)(h:∀s',Inv X pins σ H s'→Q (.bool o.isSome) s') :
   wpAny (model X.prog X.w) A (compareOp .In u (.ref a)) Q E s:=by
 rcases g with⟨kvs,k,e,ey,l⟩|⟨kvs,k,b,e,ey,eb,l⟩
 · subst ey
   obtain⟨z,hd,vs,rel,dd⟩:=wX I.iG e
   refine wpAny_in_of (yQ ry) hd dd.mapOf ?_
   rw[←(rel.val k).o7,←l]
   exact h _ (I.tok _)
 · subst ey
   cases (show u=Value.ref b from ry)
   obtain⟨z,hd,xs,rel,dd⟩:=wY I.iG e
   refine wpAny_in_heap (tupleKind_room_in1 hu) (tT I.iG eb) hd dd ?_
   have q:=(rel.val k).o7
   rw[Option.isSome_map] at q
   rw[←q,←l]
   exact h _ (I.tok _)
theorem K9{Q:Value→Shared→Prop}(hu:A.units+1<cLine)(I:Inv X pins σ H s)(g:i3 H a y o)(ry:RelV y u)(h:∀s',Inv X pins σ H s'→Q (.bool (!o.isSome)) s') :
   wpAny (model X.prog X.w) A (compareOp .NotIn u (.ref a)) Q E s:=by
 rcases g with⟨kvs,k,e,ey,l⟩|⟨kvs,k,b,e,ey,eb,l⟩
 · subst ey
   obtain⟨z,hd,vs,rel,dd⟩:=wX I.iG e
   refine wpAny_notIn_of (yQ ry) hd dd.mapOf ?_
   rw[←(rel.val k).o7,←l]
   exact h _ (I.tok _)
 · subst ey
   cases (show u=Value.ref b from ry)
   obtain⟨z,hd,xs,rel,dd⟩:=wY I.iG e
   refine wpAny_notIn_heap (tupleKind_room_in1 hu) (tT I.iG eb) hd dd ?_
   have q:=(rel.val k).o7
   rw[Option.isSome_map] at q
   rw[←q,←l]
   exact h _ (I.tok _)
theorem sG{h':Heap}{t':Nat}{ob:HO}(I:Inv X pins σ H s)(mu:Mg (H a))(hs:Heap.SameBut a s.heap h')(he:∃q,h'.get? a=some q)(new:i9 X.prog X.w (upd H a ob) h' a ob) :
   Inv X pins σ (upd H a ob) {s with heap:=h',toks:=t'}:=
 I.write (x:=a) (e:=a) mu (.inl rfl) (fun b q hb z=>(hs.2 b hb).trans z) he new
theorem Fc{P:Program}{w:World}{H':Hp}{h':Heap}{kvs:List (Key×V)}{vs:List (Key×Value)}(z:kvs.length≤sizeLine)(hd:(a ==sysModules)=false)(rel:KV kvs vs)(dd:h'.DictOf (i6 P w) a vs) :
   i9 P w H' h' a (.dK kvs):=⟨z,hd,vs,rel,dd⟩
theorem Hh{H':Hp}{Q:Unit→Shared→Prop}(hu:A.units+1<cLine)(I:Inv X pins σ H s)(g:mY H a y v H')(ry:RelV y u)(rv:RelV v r)(h:∀s',Inv X pins σ H' s'→Q () s') :
   wpAny (model X.prog X.w) A (setItem (.ref a) u r) Q E s:=by
 rcases g with⟨kvs,k,e,ey,l,eH⟩|⟨kvs,k,b,e,ey,eb,l,eH⟩
 · subst ey eH
   obtain⟨z,hd,vs,rel,dd⟩:=IF I.iG e
   have hz:vs.length≤sizeLine:=by rw[←rel.length];exact z
   have hl:(putK kvs k v).length≤sizeLine:=by have:=jn kvs k v;omega
   refine wpAny_setItem_pairs (hsz:=hz) (yQ ry) dd fun h' KD hs=>h _ ?_
   have he:∃q,h'.get? a=some q:=let ⟨q,_,_,hq,_⟩:=KD;⟨q,hq⟩
   exact sG I (by rw[e];exact True.intro) hs he (Fc hl hd (rel.put k rv) KD)
 · subst ey eH
   cases (show u=Value.ref b from ry)
   obtain⟨z,hd,xs,rel,dd⟩:=IG I.iG e
   have hz:xs.length≤sizeLine:=by rw[←Paired.length rel];exact z
   have hl:(putK kvs k v).length≤sizeLine:=by have:=jn kvs k v;omega
   refine wpAny_setItem_heap (hsz:=hz) (tupleKind_room_in1 hu) (tT I.iG eb) dd fun h' KD hs=>h _ ?_
   obtain⟨q,es,ep,hq,h2,h3,h4,_,h5⟩:=KD
   refine sG I (by rw[e];exact True.intro) hs ⟨q,hq⟩ ⟨hl,hd,_,(rel.put k eb rv).keeps fun c ys ec=>?_,q,es,ep,hq,h2,h3,h4,h5⟩
   rw[de (i0 ec e (fun z=>nomatch z))]
   exact ec
end
section
variable{X:Cx}{pins:List (Addr×Obj)}{σ:St}{H:Hp}{s:Shared}{a:Addr}{kvs:List (Key×V)}{k:Key}{u:Value}{A:Around}{E:Value→Shared→Prop}
theorem Qk{v:V}{more:List Value}{Q:Value→Shared→Prop}(I:Inv X pins σ H s)(e:H a=some (.dK kvs))(ry:RelV (kV k) u)(l:iL kvs k=some v)(hm:more=[]∨∃x,more=[x])
   (h:∀w' s',Inv X pins σ (upd H a (.dK (jS kvs k))) s'→RelV v w'→Q w' s'):wpAny (model X.prog X.w) A (call (.builtin "dict.pop") (.ref a::u::more)) Q E s:=by
 obtain⟨z,hd,vs,rel,dd⟩:=IF I.iG e
 obtain⟨w',hw,AX⟩:=o5.some_of (v:=v) (o:=valueAt vs k) (by rw[←l];exact rel.val k)
 have hp:(keyPart u).isSome=true:=by
   cases k with
   | inl i=>obtain⟨t,q⟩:=(show ∃t,u=Value.int i t from ry);subst q;rfl
   | inr x=>obtain⟨t,q⟩:=(show ∃t,u=Value.str x t from ry);subst q;rfl
 have ha:argsOk "dict.pop" ⟨.ref a::u::more,[]⟩:=by
   rcases hm with q|⟨x,q⟩
   · subst q;exact PySem.F.args_dict_pop_2 _ _
   · subst q;exact PySem.F.args_dict_pop_3 _ _ _
 refine call_meetsIn abE dd.typeIs PySem.F.entry_dict_pop ha (meets_dict_pop_there (i6 X.prog X.w) a (yQ ry) more hm hp)
   ⟨vs,w',dd,by rw[←rel.length];exact z,hw,fun h' KD hs=>h w' _ ?_ AX⟩
 have he:∃q,h'.get? a=some q:=let ⟨q,_,_,hq,_⟩:=KD;⟨q,hq⟩
 exact sG I (by rw[e];exact True.intro) hs he (Fc (aac (DC kvs k) z) hd (rel.drop k) KD)
end
def Ql(i:Expr):Prop:=∀ov iv,subscripted i false ov iv=operate [ov,iv] (getItem ov iv)
theorem K_{prog:Program}{w:World}{A:Around}{E:Value→Shared→Prop}{s:Shared}{env:Env}{value slice:Expr}{pos:Pos}{T id:String}{Q:Value→Shared→Prop}
   (hl:typeLookup (.type T) "__getitem__"=pure (some (.builtin id))) (hs:Ql slice)
   (h:wpAny (model prog w) A (eval value env) (fun o s₁=>wpAny (model prog w) A (eval slice env) (fun i s₂=>s₂.TypeIs o T∧wpAny (model prog w) A (getItem o i) Q E s₂) E s₁) E s) :
   wpAny (model prog w) A (eval (.Subscript value slice pos) env) Q E s:=by
 refine Subscript_ (wpAny_mono h (fun o s₁ h₁=>wpAny_mono h₁ (fun i s₂ h₂=>?_) fun _ _ x=>x) fun _ _ x=>x)
 obtain⟨hT,h₂⟩:=h₂
 unfold subscriptTail
 refine wpAny_bind ?_
 rw[getitemInPython_of_ne hT.not_modules]
 refine wpAny_bind (wpAny_specialOf hT hl ?_)
 have fin:wpAny (model prog w) A (subscripted slice false o i) (fun r s₃=>wpAny (model prog w) A (letTemporaryGo value o r >>= fun _=>pure r) Q E s₃) E s₂:=by
   rw[hs o i]
   exact wpAny_operating (wpAny_mono h₂ (fun r s₃ h₃=>wpAny_bind (wpAny_letTemporaryGo (wpAny_pure h₃))) fun _ _ x=>x)
 first
   | exact wpAny_pure (wpAny_bind fin)
   | exact wpAny_bind (wpAny_pure (wpAny_bind fin))
   | exact wpAny_bind fin
theorem DD{X:Cx}{pins:List (Addr×Obj)}{σ:St}{H:Hp}{s:Shared}{a:Addr}{y:V}{o:Option V}(I:Inv X pins σ H s)(g:i3 H a y o):s.TypeIs (.ref a) "dict":=by
 rcases g with⟨kvs,k,e,_,_⟩|⟨kvs,k,b,e,_,_,_⟩
 · obtain⟨_,_,vs,_,dd⟩:=wX I.iG e
   exact dd.typeIs
 · obtain⟨_,_,xs,_,dd⟩:=wY I.iG e
   exact dd.typeIs
def Qm(td ty:TE):TE:=fun σ H Q=>td σ H fun x H1=>ty σ H1 fun y H2=>∃a v,x=.ref a∧i3 H2 a y (some v)∧Q v H2
def UM(ty td:TE):TE:=fun σ H Q=>ty σ H fun y H1=>td σ H1 fun x H2=>∃a o,x=.ref a∧i3 H2 a y o∧Q (.bl o.isSome) H2
def La(ty td:TE):TE:=fun σ H Q=>ty σ H fun y H1=>td σ H1 fun x H2=>∃a o,x=.ref a∧i3 H2 a y o∧Q (.bl (!o.isSome)) H2
def Qn(td ty tv:TE):TS:=fun D σ H=>tv σ H fun v H1=>td σ H1 fun x H2=>ty σ H2 fun y H3=>∃a H4,x=.ref a∧mY H3 a y v H4∧D.nx σ H4
section
variable{X:Cx}{o i e value:Expr}{pos pos' OE:Pos}{td ty tv:TE}
theorem iU(hu:X.A.units+1<cLine)(ho:PE X o td)(hi:PE X i ty)(hs:Ql i):PE X (.Subscript o i pos) (Qm td ty):=by
 intro pins s σ H Q I h
 refine K_ PySem.F.slot_dict_getitem.lookup hs (iY (ho pins s σ H _ I h) fun u s1 ⟨x,H1,I1,rx,q1⟩=>iY (hi pins s1 σ H1 _ I1 q1) fun iv s2 ⟨y,H2,I2,ry,a,v,ex,g,q2⟩=>?_)
 subst ex
 obtain rfl:u=Value.ref a:=rx
 exact⟨DD I2 g,Hg hu I2 g ry fun w' s3 I3 AX=>⟨v,H2,I3,AX,q2⟩⟩
theorem oJ(hu:X.A.units+1<cLine)(hi:PE X i ty)(ho:PE X o td):PC X .In i o (UM ty td):=by
 intro pins s σ H Q I h
 refine iY (hi pins s σ H _ I h) fun iv s1 ⟨y,H1,I1,ry,q1⟩=>iY (ho pins s1 σ H1 _ I1 q1) fun u s2 ⟨x,H2,I2,rx,a,ov,ex,g,q2⟩=>?_
 subst ex
 obtain rfl:u=Value.ref a:=rx
 exact UL hu I2 g ry fun s3 I3=>⟨.bl ov.isSome,H2,I3,rfl,q2⟩
theorem lb(hu:X.A.units+1<cLine)(hi:PE X i ty)(ho:PE X o td):PC X .NotIn i o (La ty td):=by
 intro pins s σ H Q I h
 refine iY (hi pins s σ H _ I h) fun iv s1 ⟨y,H1,I1,ry,q1⟩=>iY (ho pins s1 σ H1 _ I1 q1) fun u s2 ⟨x,H2,I2,rx,a,ov,ex,g,q2⟩=>?_
 subst ex
 obtain rfl:u=Value.ref a:=rx
 exact K9 hu I2 g ry fun s3 I3=>⟨.bl (!ov.isSome),H2,I3,rfl,q2⟩
theorem ju(hu:X.A.units+1<cLine)(ho:PE X o td)(hi:PE X i ty)(hv:PE X value tv)(hs:swapsWith value (some (.Subscript o i pos')) pos.line X.env=pure false) :
   PS X (.Assign [.Subscript o i pos'] value pos) (Qn td ty tv):=by
 intro pins s σ H D I h
 refine wpAny_Assign_Subscript (iY (hv pins s σ H _ I h) fun r s1 ⟨v,H1,I1,rv,q1⟩=>iY (ho pins s1 σ H1 _ I1 q1) fun u s2 ⟨x,H2,I2,rx,q2⟩=>iY (hi pins s2 σ H2 _ I2 q2) fun iv s3 ⟨y,H3,I3,ry,a,H4,ex,g,q3⟩=>?_) hs
 subst ex
 obtain rfl:u=Value.ref a:=rx
 exact Hh hu I3 g ry rv fun s4 I4=>⟨σ,H4,I4,q3⟩
end
theorem IH{P:Program}{w:World}{H:Hp}(h:Heap)(hb:sysModules<h.objs.size):i9 P w H (h.push {cls:=.type "dict",data:=.dict #[]}) h.objs.size (.dK []):=
 ⟨aaD _,beq_eq_false_iff_ne.mpr (Ne.symm (aaM hb)),[],.nil,Heap.DictOf.new h⟩
theorem II{P:Program}{w:World}{H:Hp}(h:Heap)(hb:sysModules<h.objs.size):i9 P w H (h.push {cls:=.type "dict",data:=.dict #[]}) h.objs.size (.dT []):=
 ⟨aaD _,beq_eq_false_iff_ne.mpr (Ne.symm (aaM hb)),[],.nil,_,#[],0,Heap.get?_push_size _ rfl,⟨rfl,rfl,rfl⟩,rfl,rfl,aa6⟩
def Nn:TE:=fun _ H Q=>∀p,H p=none→Q (.ref p) (upd H p (.dK []))
def Np:TE:=fun _ H Q=>∀p,H p=none→Q (.ref p) (upd H p (.dT []))
section
variable{X:Cx}{pos:Pos}
theorem ni:PE X (.Dict [] [] pos) Nn:=fun pins s σ H Q I h=>
 wpAny_Dict_empty ⟨.ref s.heap.objs.size,_,I.laid (a:=s.heap.objs.size) (o:=.dK []) (t':=s.toks) (fun _ _ q=>Heap.get?_push_of_some _ q) (UU _) (IH s.heap I.big),rfl,h _ (I.iG.fresh (UU _))⟩
theorem mr:PE X (.Dict [] [] pos) Np:=fun pins s σ H Q I h=>
 wpAny_Dict_empty ⟨.ref s.heap.objs.size,_,I.laid (a:=s.heap.objs.size) (o:=.dT []) (t':=s.toks) (fun _ _ q=>Heap.get?_push_of_some _ q) (UU _) (II s.heap I.big),rfl,h _ (I.iG.fresh (UU _))⟩
end
structure M1(X:Cx)(o:Expr)(m:Str)(apos:Pos)(e:Expr)(kP:Pos):Prop where
 base:attributeBase o m X.env (eval o X.env)=eval o X.env
 jK:((backTo kP (starEach [e] X.env)).all (fun x=>!x.1)&&(backToKw kP (keywordEach [] X.env)).all (fun x=>x.1.isSome)
   &&decide (([e]:List Expr).length+([]:List Keyword).length+(if([]:List Keyword).isEmpty then 0 else 1)<30))=true
 line:(apos.endLine ==kP.line)=true
 trees:backTo kP (starEach [e] X.env)=[(false,eval e X.env)]
structure M2(X:Cx)(o:Expr)(m:Str)(apos:Pos)(e f:Expr)(kP:Pos):Prop where
 base:attributeBase o m X.env (eval o X.env)=eval o X.env
 jK:((backTo kP (starEach [e,f] X.env)).all (fun x=>!x.1)&&(backToKw kP (keywordEach [] X.env)).all (fun x=>x.1.isSome)
   &&decide (([e,f]:List Expr).length+([]:List Keyword).length+(if([]:List Keyword).isEmpty then 0 else 1)<30))=true
 line:(apos.endLine ==kP.line)=true
 trees:backTo kP (starEach [e,f] X.env)=[(false,eval e X.env),(false,eval f X.env)]
def Pd(H:Hp)(a:Addr):Prop:=(∃kvs,Rd H a (.dK kvs))∨∃kvs,Rd H a (.dT kvs)
theorem yR{X:Cx}{pins:List (Addr×Obj)}{σ:St}{H:Hp}{s:Shared}{a:Addr}(I:Inv X pins σ H s)(d:Pd H a) :
   s.TypeIs (.ref a) "dict"∧(∀b,Value.ref a=.ref b→∃ob,s.heap.get? b=some ob∧ob.dict=none)∧(a ==sysModules)=false:=by
 rcases d with⟨kvs,e⟩|⟨kvs,e⟩
 · obtain⟨_,hd,vs,_,dd⟩:=wX I.iG e
   refine⟨dd.typeIs,fun b q=>?_,hd⟩
   cases q
   obtain⟨ob,_,_,h1,h2,_⟩:=dd
   exact⟨ob,h1,h2.2.1⟩
 · obtain⟨_,hd,xs,_,dd⟩:=wY I.iG e
   refine⟨dd.typeIs,fun b q=>?_,hd⟩
   cases q
   obtain⟨ob,_,_,h1,h2,_⟩:=dd
   exact⟨ob,h1,h2.2.1⟩
section
variable{X:Cx}{pins:List (Addr×Obj)}{σ:St}{H:Hp}{s:Shared}{a:Addr}{y d:V}{u r:Value}{o:Option V}{A:Around}{E:Value→Shared→Prop}
theorem Nq{Q:Value→Shared→Prop}(hu:A.units+1<cLine)(I:Inv X pins σ H s)(g:i3 H a y o)(ry:RelV y u)(rd:RelV d r)(h:∀w' s',Inv X pins σ H s'→RelV (o.getD d) w'→Q w' s') :
   wpAny (model X.prog X.w) A (call (.builtin "dict.get") [.ref a,u,r]) Q E s:=by
 rcases g with⟨kvs,k,e,ey,l⟩|⟨kvs,k,b,e,ey,eb,l⟩
 · subst ey
   obtain⟨z,hd,vs,rel,dd⟩:=wX I.iG e
   refine call_meetsIn PySem.F.slot_dict_get dd.typeIs PySem.F.entry_dict_get (PySem.F.args_dict_get_3 _ _ _) (meets_dict_get_default (i6 X.prog X.w) a (yQ ry) hd r) ⟨_,dd.mapOf,h _ _ (I.tok _) ?_⟩
   rw[l]
   exact(rel.val k).getD rd
 · subst ey
   cases (show u=Value.ref b from ry)
   obtain⟨z,hd,xs,rel,dd⟩:=wY I.iG e
   refine call_meetsIn PySem.F.slot_dict_get dd.typeIs PySem.F.entry_dict_get (PySem.F.args_dict_get_3 _ _ _) (meetsH_dict_get_default (tupleKind (i6 X.prog X.w)) a b hd r) ⟨tupleKind_room_in1 hu,k,xs,tT I.iG eb,dd,h _ _ (I.tok _) ?_⟩
   rw[l]
   exact(rel.val k).getD rd
end
def Nr(td ty tx:TE):TE:=fun σ H Q=>td σ H fun x H1=>∃a,x=.ref a∧Pd H1 a∧ty σ H1 fun y H2=>tx σ H2 fun z H3=>∃o,i3 H3 a y o∧Q (o.getD z) H3
def Nt(td ty:TE):TE:=fun σ H Q=>td σ H fun x H1=>∃a,x=.ref a∧Pd H1 a∧ty σ H1 fun y H2=>∃kvs k v,H2 a=some (.dK kvs)∧y=kV k∧iL kvs k=some v∧Q v (upd H2 a (.dK (jS kvs k)))
section
variable{X:Cx}{o e f:Expr}{apos kP:Pos}{td ty tx:TE}
theorem IJ(hu:X.A.units+1<cLine)(ho:PE X o td)(he:PE X e ty)(hf:PE X f tx)(m:M2 X o "get" apos e f kP):PE X (.Call (.Attribute o "get" apos) [e,f] [] kP) (Nr td ty tx):=by
 intro pins s σ H Q I h
 refine wpAny_Call_method m.base m.jK m.line abi PySem.F.slot_dict_get PySem.F.type_dict_get (iY (ho pins s σ H _ I h) fun u s1 ⟨x,H1,I1,rx,a,ex,d,q1⟩=>?_)
 subst ex
 obtain rfl:u=Value.ref a:=rx
 obtain⟨t1,t2,_⟩:=yR I1 d
 refine⟨t1,t2,?_⟩
 rw[m.trees]
 refine Calls.callWith_builtin rfl (Calls.evalArgs_plain (Calls.spliced_cons (iY (he pins s1 σ H1 _ I1 q1) fun iv s2 ⟨y,H2,I2,ry,q2⟩=>
   Calls.spliced_cons (iY (hf pins s2 σ H2 _ I2 q2) fun fv s3 ⟨z,H3,I3,rz,ov,g,q3⟩=>Calls.spliced_nil ?_))))
 exact Nq hu I3 g ry rz fun w' s4 I4 AX=>⟨_,H3,I4,AX,q3⟩
theorem IK(ho:PE X o td)(he:PE X e ty)(m:M1 X o "pop" apos e kP):PE X (.Call (.Attribute o "pop" apos) [e] [] kP) (Nt td ty):=by
 intro pins s σ H Q I h
 refine wpAny_Call_method m.base m.jK m.line abi abE PySem.F.type_dict_pop (iY (ho pins s σ H _ I h) fun u s1 ⟨x,H1,I1,rx,a,ex,d,q1⟩=>?_)
 subst ex
 obtain rfl:u=Value.ref a:=rx
 obtain⟨t1,t2,_⟩:=yR I1 d
 refine⟨t1,t2,?_⟩
 rw[m.trees]
 refine Calls.callWith_builtin rfl (Calls.evalArgs_plain (Calls.spliced_cons (iY (he pins s1 σ H1 _ I1 q1) fun iv s2 ⟨y,H2,I2,ry,kvs,k,v,ea,ey,l,q2⟩=>Calls.spliced_nil ?_)))
 subst ey
 exact Qk I2 ea ry l (.inl rfl) fun w' s3 I3 AX=>⟨v,_,I3,AX,q2⟩
end
section
variable{X:Cx}{pins:List (Addr×Obj)}{σ:St}{H:Hp}{s:Shared}{a:Addr}{kvs:List (Key×V)}{A:Around}{E:Value→Shared→Prop}
end
section
variable{X:Cx}{pins:List (Addr×Obj)}{σ:St}{H:Hp}{s:Shared}{a:Addr}{y:V}{u:Value}{A:Around}{E:Value→Shared→Prop}
end
end L2
namespace XS
open PySem PySem.W PySem.Calls PyProof.Rows
theorem xY{P:Params}{h:Heap}:∀(ns:List Int)(vs:List Value),WellAll P h vs (ns.map WData.int)→IntsAre vs ns:=by
 intro ns
 induction ns with
 | nil=>
   intro vs w
   rw[List.map_nil] at w
   cases w
   exact .nil
 | cons n ns ih=>
   intro vs w
   rw[aao] at w
   cases w with
   | cons a b=>
     cases a
     exact .cons _ _ (ih _ b)
theorem Hi{l:OpenLaw}{n:Nat}(hn:l.most=some n){P:Params}{h:Heap}{args:List WData}{vals:List Value}
   (LX:l.row.toRowW.claim.pre args=true) (MC:WellAll P h vals args) :
   ∃a vs ns,vals=[Value.ref a]∧args=[WData.list (ns.map WData.int)]∧h.get? a=some {cls:=.type "list",data:=.seq vs.toArray}∧IntsAre vs ns∧ns.length≤n:=by
 have hsh:WShape.hasAll [] args [.list .int]=true:=(pre_splitW LX).1
 have hc:l.pre.holds [] {args:=args}=true:=(pre_splitW LX).2
 obtain⟨d,r,rfl,h1,h2⟩:=hasAllW_cons hsh
 obtain rfl:=hasAllW_nil h2
 obtain⟨xs,rfl,h3⟩:=hasW_list h1
 obtain⟨ns,rfl⟩:=items_int h3
 have hlen:ns.length≤n:=by
   unfold OpenLaw.pre at hc
   have h4:(WTm.not (.lt (.lit (.int (n:Int))) (.len (.arg 0)))).holds [] {args:=[.list (ns.map .int)]}=true:=by
     have h4:=(holds_andW hc).1
     rw[hn] at h4
     exact h4
   have h5:=condW_of h4 (w_not (w_lt w_lit (w_len_list (w_arg rfl))))
   rw[RF] at h5
   refine Nat.le_of_not_lt fun q=>?_
   have q':(n:Int)<((ns.length:Nat):Int):=by omega
   first
     | (rw[UW q'] at h5;exact absurd h5 (by decide))
     | (simp at h5;omega)
 cases MC with
 | cons w1 w2=>
   cases w2
   cases w1 with
   | list ho CK=>exact⟨_,_,ns,rfl,rfl,ho,xY ns _ CK,hlen⟩
theorem Hj(l:OpenLaw)(args:List WData):l.row.toRowW.claim.post args (.bool true) args=true:=
 postW_of (r:=l.row.toRowW) (X:=(true ==true))
   (show WShape.has [] (.bool true) .bool=true by first|rfl|decide|simp[WShape.has,WShape.arms,WShape.armsAll])
   (show(WTm.eq .res (.lit (.bool true))).value [] {args:=args,res:=some (.bool true),after:=args}=some (.bool (true ==true)) from w_eq_bool (w_res rfl) w_lit) rfl
theorem DE{l:OpenLaw}{n:Nat}{q:Program}{loose:List Str}{XP:(Str→Option Value)→Heap→Prop}{YP:World→Heap→Prop}{d:DefRec}
   (hn:l.most=some n) (Rb:d.params.defaults=[])
   (call:∀(w:World)(s₀ s₁:Shared)(mg mb:Str→Option Value)(fa:Addr)(o:Obj)(pm cd doc:Value)(a:Addr)(vs:List Value)(ns:List Int),
     Ground q loose [] XP w s₀ mg mb s₁.heap→YP w s₁.heap→
     s₁.heap.get? fa=some o→o.data=.func (docDef d.name d.params d.body d.scope pm cd doc)→s₁.heap.CodeRec cd d.name→mg d.name=some (.ref fa)→
     s₁.heap.get? a=some {cls:=.type "list",data:=.seq vs.toArray}→IntsAre vs ns→ns.length≤n→s₁.gens=#[]→
     codeAny (model l.prog w) callerA (.call (.ref fa) ⟨[.ref a],[]⟩) (fun r s'=>r=.ok (.ret (.bool true))∧OldK s₁.heap s'.heap∧s'.os=s₁.os∧AllBare s'.gens) s₁) :
   WalkO q loose XP YP l.row.toRowW d [] (fun f vs=>PySem.call f vs):=by
 intro w s₀ s₁ mg mb G Y fa o pm cd doc dV kV ho hd Ay hD Rc hg args vals as LX hlay hrd MC Vi
 obtain rfl:dV=.none:=Dflts.none hD Rb
 obtain rfl:kV=.none:=Dflts.noKw hD
 obtain⟨a,vs,ns,rfl,rfl,OH,hints,hlen⟩:=Hi hn LX MC
 refine enter_call (codeAny_mono (call w s₀ s₁ mg mb fa o pm cd doc a vs ns G Y ho (fd_plain hd) Ay Rc OH hints hlen hg) fun r s' hq=>?_)
 obtain⟨rfl,h2,h3,h4⟩:=hq
 exact⟨.inl ⟨.bool true,.bool true,[],rfl,fun _=>rfl,.bool true,Hj l _,fun _=>⟨List.Pairwise.nil,fun _ hm=>(nomatch hm)⟩⟩,h2,h3,h4⟩
section
variable{prog:Program}{w:World}{A:Around}{E:Value→Shared→Prop}{s:Shared}{K:Frag}
def ledger(h:Heap)(L d:Addr):List (Addr×Obj):=(List.range h.objs.size).filterMap fun a=>if a=L∨a=d then none else(h.get? a).map fun o=>(a,o)
end
end XS
namespace L2
open PySem PySem.Spec PyProof.Rows
theorem Bc:∀{vs:List Value} {ns:List Int},IntsAre vs ns→Vals (ns.map V.int) vs
 | _,_,.nil=>.nil
 | _,_,.cons n t h=>.cons ⟨t,rfl⟩ (Bc h)
def Nu(H:Hp):Prop:=∀b,H b=none∨∃o xs,H b=some (.nQ o (.lst xs))
theorem IL{P:Program}{w:World}{K:PySem.W.Frag}{mg mb:Str→Option Value}{CX:E4}{k:Nat}{fa a:Addr}{fd:FuncData}{x:Str}{sp:Sp}{s₁:Shared}{vs:List Value}{ns:List Int}
   (KX:K.In s₁.heap) (Yf:s₁.heap.Ns mainGlobals mg) (hb:s₁.heap.Ns builtinsNs mb) (hbb:∀x:Str,x≠"__name__"→mb x=bootBuiltins x) (Vj:s₁.heap.NoLimit) (hg:s₁.gens=#[])
   (ha:s₁.heap.get? a=some {cls:=.type "list",data:=.seq vs.toArray}) (hi:IntsAre vs ns) (hl:ns.length≤sizeLine) (hr:ku k callerA)
   (F:∀base:Heap,K.In base→base.Ns mainGlobals mg→ie P w K mg base CX k fa fd [x] sp) (Rf:∀(s:Shared)(u:Value),BindsTo s fd ⟨[u],[]⟩ [(x,u)])
   (H_:∀H:Hp,Nu H→hV K H a (ns.map V.int)→sp [.ref a] H (fun v _=>v=.bl true) fun _ _ _=>False)
   (Vk:∀H e s',CX [] H s₁ (fun _ _ _=>False) e s'→False) :
   codeAny (model P w) callerA (.call (.ref fa) ⟨[.ref a],[]⟩) (fun r s'=>r=.ok (.ret (.bool true))∧OldK s₁.heap s'.heap∧s'.os=s₁.os∧AllBare s'.gens) s₁:=by
 have rv:=Bc hi
 have Vl:=hi.length
 have core:∀H:Hp,Nu H→hV K H a (ns.map V.int)→pN P w H s₁.heap→(∀b,H b≠none→b=a)→(H a≠none→K.lookup a=none)→
     codeAny (model P w) callerA (.call (.ref fa) ⟨[.ref a],[]⟩) (fun r s'=>r=.ok (.ret (.bool true))∧OldK s₁.heap s'.heap∧s'.os=s₁.os∧AllBare s'.gens) s₁:=by
   intro H hO hS iG hA hK
   have GS:∀{b:Addr} {o:Obj},s₁.heap.get? b=some o→H b=none→(BI s₁.heap H).get? b=some o:=fun e n=>Ip e n
   have Q_:∀{b:Addr} {o:Obj} {es:Array DictEntry} {ep:Nat},s₁.heap.get? b=some o→o.data=.dict es ep→H b=none:=fun{b o es ep} e d=>by
     cases q:H b with
     | none=>rfl
     | some u=>
       have e':b=a:=hA b (by rw[q];simp)
       subst e'
       rw[ha] at e;cases e
       have d':Data.seq vs.toArray _=Data.dict es ep:=d
       cases d'
   have Td:∀{b:Addr} {m:Str→Option Value},s₁.heap.Ns b m→(BI s₁.heap H).Ns b m:=fun{b m} ⟨o,es,ep,e,d,r⟩=>⟨o,es,ep,GS e (Q_ e d),d,r⟩
   have Yg:K.In (BI s₁.heap H):=fun b o e=>GS (KX b o e) (by
     cases q:H b with
     | none=>rfl
     | some u=>
       have e':b=a:=hA b (by rw[q];simp)
       subst e'
       rw[hK (by rw[q];simp)] at e;cases e)
   have hM:Mod K mg (BI s₁.heap H):=⟨Yg,Td Yf,⟨mb,Td hb,hbb⟩,let ⟨mc,h1,h2⟩:=Vj;⟨mc,Td h1,h2⟩⟩
   have e0:Dr P w K mg (BI s₁.heap H) callerA [] s₁ H:=⟨rfl,hM,fun b o e=>KN e,Nat.le_of_eq (G8 _ _),trivial,fun b hb=>absurd (show b∈([]:List Addr) from hb) (by simp),iG,.of_eq hg⟩
   refine codeAny_mono ((F _ Yg (Td Yf)).run callerA [] s₁ H ⟨[.ref a],[]⟩ [.ref a] [.ref a] _ _ hr e0 (Rf s₁ (.ref a)) (.cons rfl .nil) (H_ H hO hS)) fun r s' h=>?_
   cases r with
   | error e=>exact(Vk H e s' h).elim
   | ok fl=>
     cases fl with
     | next=>exact False.elim h
     | brk=>exact False.elim h
     | cont=>exact False.elim h
     | ret u=>
       obtain⟨v,H',os,bare,un,Vm,r',q⟩:=h
       have q':v=.bl true:=q
       subst q'
       obtain rfl:u=Value.bool true:=r'
       refine⟨rfl,OldK.of_keep fun b o e=>?_,os,bare⟩
       cases q:H b with
       | none=>exact un.keep b o e q (by intro z;exact absurd (show b∈([]:List Addr) from z) (by simp)) (by simp)
       | some u=>
         rcases hO b with z|⟨ob,xs,z⟩
         · rw[q] at z;cases z
         · have z2:=un.qQ b ob _ z
           obtain⟨e1,_⟩:=iG b _ z
           obtain⟨e2,_⟩:=Vm b _ z2
           rw[e] at e1;cases e1
           exact e2
 cases hk:K.lookup a with
 | some o=>
   have e:=KX a o hk
   rw[ha] at e
   cases e
   refine core (fun _=>none) (fun _=>.inl rfl) (.inr ⟨_,vs.toArray,_,hk,rfl,rfl,rfl,by rw[aae,Vl];exact hl,by simpa using rv⟩) (fun b u z=>by have z':(none:Option HO)=some u:=z;cases z') (fun b z=>absurd rfl z) fun z=>absurd rfl z
 | none=>
   refine core (fun b=>if b=a then some (.nQ {cls:=.type "list",data:=.seq vs.toArray} (.lst (ns.map V.int))) else none) (fun b=>?_) (.inl (.inr ⟨{cls:=.type "list",data:=.seq vs.toArray},aap rfl⟩)) (fun b u z=>?_) (fun b z=>?_) fun _=>hk
   · by_cases hb:b=a
     · exact .inr ⟨_,_,aap hb⟩
     · exact .inl (aak hb)
   · by_cases hb:b=a
     · have z':=(aap hb).symm.trans z
       cases z'
       subst hb
       exact⟨ha,by rw[RF];exact hl,vs,_,rv,ha⟩
     · have z':=(aak hb).symm.trans z
       cases z'
   · by_cases hb:b=a
     · exact hb
     · exact absurd (aak hb) z
theorem Lb{l:PySem.W.OpenLaw}{n k:Nat}{q:Program}{loose:List Str}{XP:(Str→Option Value)→Heap→Prop}{YP:World→Heap→Prop}{d:DefRec}{K:Params→PySem.W.Frag}{CX:World→E4}{sp:World→Sp}{x:Str}
   (hn:l.most=some n) (OD:n≤sizeLine) (Rb:d.params.defaults=[]) (hr:ku k callerA)
   (hY:∀(w:World)(h:Heap),YP w h→(K w.params).In h)
   (F:∀(w:World)(mg:Str→Option Value)(fa:Addr)(h:Heap),(K w.params).In h→h.Ns mainGlobals mg→mg d.name=some (.ref fa)→
     ∃fd:FuncData,(∀(s:Shared)(u:Value),BindsTo s fd ⟨[u],[]⟩ [(x,u)])∧
       ∀base:Heap,(K w.params).In base→base.Ns mainGlobals mg→ie l.prog w (K w.params) mg base (CX w) k fa fd [x] (sp w))
   (H_:∀(w:World)(H:Hp)(a:Addr)(ns:List Int),ns.length≤n→Nu H→hV (K w.params) H a (ns.map V.int)→sp w [.ref a] H (fun v _=>v=.bl true) fun _ _ _=>False)
   (Vk:∀(w:World)(H:Hp)(s:Shared)(e:Value)(s':Shared),CX w [] H s (fun _ _ _=>False) e s'→False) :
   PySem.W.WalkO q loose XP YP l.row.toRowW d [] (fun f vs=>PySem.call f vs):=by
 refine XS.DE hn Rb fun w s₀ s₁ mg mb fa o pm cd doc a vs ns G Y ho hd Ay Rc OH hints hlen hg=>?_
 have KX:=hY w _ Y
 obtain⟨fd,hb,hF⟩:=F w mg fa _ KX G.T.g Rc
 exact IL KX G.T.g G.T.b G.T.builtins G.T.nolimit hg OH hints (aac hlen OD) hr hF hb (fun H hO hS=>H_ w H a ns hlen hO hS) fun H e s'=>Vk w H s₁ e s'
def inClass(s:Stmt)(j:Nat):Stmt:=match s with
 | .ClassDef _ _ _ body _ _ _ _ _ _ _=>body.getD j (.Pass ⟨0,0,0,0⟩)
 | _=>.Pass ⟨0,0,0,0⟩
def pQ(s:Stmt):Arguments:=match s with
 | .FunctionDef _ a _ _ _ _ _ _ _ _=>a
 | _=>{posonlyargs:=[],args:=[],vararg:=none,kwonlyargs:=[],kw_defaults:=[],kwarg:=none,defaults:=[]}
def mf(s:Stmt):List Stmt:=match s with
 | .FunctionDef _ _ b _ _ _ _ _ _ _=>b
 | _=>[]
def fU(s:Stmt):Scope:=match s with
 | .FunctionDef _ _ _ _ _ _ sc _ _ _=>sc
 | _=>{kind:=.function,names:=[],isGenerator:=false,isCoroutine:=false}
abbrev lZ:E4:=fun _ _ _ _ _ _=>False
abbrev E0:XK:=fun _ _ _=>False
theorem lg{X:Cx}:Passes lZ X E0:=fun _ _ _ _ _ _ _ h=>h.elim
structure Ax(K:PySem.W.Frag)(x qual:Str)(st:Stmt)(f:Addr)(fd:FuncData):Prop where
 ex:∃(oc:Value)(od:Option Addr)(kV doc pm:Value)(an:Option Addr)(jd ct:Value)(HZ:Array (Option Value)),
   fd=PySem.W.fnOf x qual (pQ st) (mf st) (fU st) .none kV doc pm an jd ct∧K.lookup f=some ⟨oc,od,.func fd,HZ⟩∧PySem.W.codeIn K jd qual=true
 kp:PySem.W.keepIn K (.ref f)=true
section
variable{P:Program}{w:World}{K:PySem.W.Frag}{mg:Str→Option Value}{base:Heap}
theorem Ax.ok{x qual:Str}{st:Stmt}{f:Addr}{fd:FuncData}{N ps:List Str}{k:Nat}{sp:Sp}(F:Ax K x qual st f fd)(S:gm N ps (fU st))(len:∀vs H Q E,sp vs H Q E→vs.length=ps.length)
   (z8:∀(jd:Value)(A:Around)(outer:List Env)(s:Shared)(H:Hp)(vs:List V)(Q:VK)(E:XK),ku k (A.deeper (envOfC qual (fU st) s.heap.objs.size f jd))→sp vs H Q E→
     ∃t,Dg (vO lZ P w K mg base N qual (fU st) f jd A outer s H E).SW (mf st) t∧t {nx:=fun _ H'=>Q .jv H',rt:=Q} (start N vs) H):ie P w K mg base lZ (k+1) f fd ps sp:=by
 obtain⟨oc,od,kV,doc,pm,an,jd,ct,HZ,rfl,lk,Ay⟩:=F.ex
 refine Mp lk Ay S len fun A outer s H vs Q E hr H_=>?_
 obtain⟨t,h,q⟩:=z8 jd A outer s H vs Q E hr H_
 exact⟨t,h.SW,q⟩
theorem Ax.binds{x qual:Str}{st:Stmt}{f:Addr}{fd:FuncData}{ps:List Str}(F:Ax K x qual st f fd)
   (h:∀(kV doc pm:Value)(an:Option Addr)(jd ct:Value)(us:List Value),us.length=ps.length→bindArgs (PySem.W.fnOf x qual (pQ st) (mf st) (fU st) .none kV doc pm an jd ct) ⟨us,[]⟩=pure (ps.zip us)):Binds K fd ps []:=by
 obtain⟨oc,od,kV,doc,pm,an,jd,ct,HZ,rfl,lk,Ay⟩:=F.ex
 exact .all (h kV doc pm an jd ct)
theorem IM{x qual:Str}{st:Stmt}{f:Addr}{oc:Value}{od an:Option Addr}{HZ:Array (Option Value)}{kV doc pm jd ct:Value}(l:K.lookup f=some ⟨oc,od,.func (PySem.W.fnOf x qual (pQ st) (mf st) (fU st) .none kV doc pm an jd ct),HZ⟩)
   (c:PySem.W.codeIn K jd qual=true) (k:PySem.W.keepIn K (.ref f)=true):Ax K x qual st f (PySem.W.fnOf x qual (pQ st) (mf st) (fU st) .none kV doc pm an jd ct):=⟨⟨oc,od,kV,doc,pm,an,jd,ct,HZ,rfl,l,c⟩,k⟩
end
theorem ic{A:Around}{k:Nat}(hr:ku k A):A.units+1<cLine:=aa9 (Nat.add_le_add_left (by decide:1≤64) _) hr.units
section
variable{X:Cx}
theorem pv(i:Nat){x:Str}{pos:Pos}(hN:X.N[i]?=some x:=by rfl)(hv:Uc X.env.scope x:=by first|exact Or.inl rfl|exact Or.inr (Or.inl rfl)|exact Or.inr (Or.inr rfl))(hd:(x ==("__debug__":Str))=false:=by decide)
   (Ay:(x ==("__classdict__":Str))=false:=by decide):PE X (.Name x pos) (P1 i):=M4 hN hv hd Ay
end
theorem k7{A B:Prop}(h:B):if false=true then A else B:=by
 rw[aak aad]
 exact h
theorem mD{A B:Prop}(h:A):if true=true then A else B:=by
 rw[aap rfl]
 exact h
theorem jT{c A B:Prop}[Decidable c](h1:c→A)(h2:¬c→B):if c then A else B:=by
 by_cases h:c
 · rw[aap h]
   exact h1 h
 · rw[aak h]
   exact h2 h
def gb(H H':Hp):Prop:=∀b o,H b=some o→H' b=some o
theorem gb.refl(H:Hp):gb H H:=fun _ _ h=>h
theorem gb.trans{H H1 H2:Hp}(a:gb H H1)(b:gb H1 H2):gb H H2:=fun c o h=>b c o (a c o h)
theorem gb.free{H H':Hp}(e:gb H H'){l:Addr}(h:H' l=Option.none):H l=Option.none:=by
 cases q:H l with
 | none=>rfl
 | some o=>
   rw[e l o q] at h
   cases h
section
variable{κ:Type}[DecidableEq κ]
theorem vP{p:κ×V}{r:List (κ×V)}{k:κ}(e:p.1=k):jS (p::r) k=jS r k:=by
 unfold jS
 rw[List.filter_cons,aak (by simp[e])]
theorem vQ{p:κ×V}{r:List (κ×V)}{k:κ}(e:¬p.1=k):jS (p::r) k=p::jS r k:=by
 unfold jS
 rw[List.filter_cons,aap (by simp[e])]
end
section
variable{prog:Program}{w:World}{A:Around}{R:Result→Shared→Prop}{s:Shared}
abbrev Lc:Value→Shared→Prop:=fun _ _=>False
theorem BU{elt target iter:Expr}{ifs:List Expr}{scope:Scope}{pos:Pos}{it acc:Value}{env:Env}(I:Nat→Shared→Prop)
   (turn:∀n s,I n s→wpAny (model prog w) A (pyNext it) (fun r s1=>match r with
     | none=>R (.ok .next) s1
     | some v=>wpAny (model prog w) A (letOwnedTupleGo target it v) (fun _ Yh=>wpAny (model prog w) A (assign target env v) (fun _ s2=>
         wpAny (model prog w) A (forIn ifs true fun c r=>if r=true then do let ok ←isTrue c env (eval c env);pure (ForInStep.yield ok) else pure (ForInStep.yield r)) (fun ok s3=>
           if ok=true then wpAny (model prog w) A (eval elt env) (fun x s4=>wpAny (model prog w) A (call (.builtin "list.append") [acc,x]) (fun _ s5=>∃m,m<n∧I m s5) Lc s4) Lc s3
           else ∃m,m<n∧I m s3) Lc s2) Lc Yh) Lc s1) Lc s)
   (n:Nat) (h:I n s):codeAny (model prog w) A (.compLoop (.ListComp elt [⟨target,iter,ifs,0⟩] scope pos) 0 it acc env) R s:=by
 refine codeAny_loop rfl I (fun n s hI=>?_) n h
 show wpAny _ A ((compTurn (.ListComp elt [⟨target,iter,ifs,0⟩] scope pos) 0 it acc env).onRaise (fun x=>do noteFrame x env;theTreesLotGoes x)) _ _ s
 refine wpAny_noted ?_
 rw[compTurn_list]
 refine wpAny_bind (wpAny_standAt (wpAny_bind (wpAny_mono (turn n s hI) (fun r s1 h1=>?_) fun _ _ h'=>h'.elim)))
 cases r with
 | none=>exact wpAny_pure h1
 | some v=>
   refine wpAny_bind (wpAny_mono h1 (fun _ Yh LY=>?_) fun _ _ h'=>h'.elim)
   refine wpAny_bind (wpAny_mono LY (fun _ s2 h2=>wpAny_bind (wpAny_mono h2 (fun ok s3 h3=>?_) fun _ _ h'=>h'.elim)) fun _ _ h'=>h'.elim)
   cases ok with
   | false=>exact wpAny_pure ⟨rfl,h3⟩
   | true=>
     exact wpAny_bind (wpAny_bind (wpAny_mono h3 (fun x s4 h4=>wpAny_bind (wpAny_mono h4 (fun _ s5 h5=>wpAny_pure (wpAny_pure ⟨rfl,h5⟩)) fun _ _ h'=>h'.elim)) fun _ _ h'=>h'.elim))
end
def js(cells:List (Str×Addr)):List (Str×NameKind)→List (Str×Addr)→List (Str×Addr)
 | [],cs=>cs
 | (n,k)::r,cs=>js cells r (if k ==.free then(n,(cells.lookup n).getD 0)::cs else cs)
theorem Be{cells:List (Str×Addr)}:∀{names:List (Str×NameKind)} {cs:List (Str×Addr)} {x:Str} {c:Addr},(∀y∈names,y.2=.free→∃c,cells.lookup y.1=some c)→
   (js cells names cs).lookup x=some c→cs.lookup x=some c∨cells.lookup x=some c
 | [],_,_,_,_,h=>.inl h
 | (n,k)::r,cs,x,c,hf,h=>by
   rcases Be (fun y hy=>hf y (aag _ hy)) (show(js cells r (if k ==.free then(n,(cells.lookup n).getD 0)::cs else cs)).lookup x=some c from h) with q|q
   · by_cases hk:(k ==NameKind.free)=true
     · rw[aap hk] at q
       by_cases hx:(x ==n)=true
       · rw[abw,hx] at q
         obtain⟨c',e⟩:=hf (n,k) aan (eq_of_beq hk)
         have e:cells.lookup n=some c':=e
         rw[e] at q
         have q:some c'=some c:=q
         rw[eq_of_beq hx,e,q]
         exact .inr rfl
       · rw[abw,abc.mpr hx] at q
         exact .inl q
     · rw[aak hk] at q
       exact .inl q
   · exact .inr q
theorem yS{cells:List (Str×Addr)}:∀{names:List (Str×NameKind)} {cs:List (Str×Addr)} {x:Str},(∃c,cs.lookup x=some c)→∃c,(js cells names cs).lookup x=some c
 | [],_,_,h=>h
 | (n,k)::r,cs,x,h=>by
   refine yS (names:=r) ?_
   by_cases hk:(k ==NameKind.free)=true
   · rw[aap hk,abw]
     cases x ==n with
     | true=>exact⟨_,rfl⟩
     | false=>exact h
   · rw[aak hk];exact h
theorem vR{cells:List (Str×Addr)}:∀{names:List (Str×NameKind)} {cs:List (Str×Addr)} {x:Str},(x,NameKind.free)∈names→∃c,(js cells names cs).lookup x=some c
 | [],_,_,h=>nomatch h
 | (n,k)::r,cs,x,h=>by
   rcases XU.mp h with e|h2
   · cases e
     refine yS (names:=r) ⟨(cells.lookup n).getD 0,?_⟩
     rw[aap (by rfl),abw,beq_self_eq_true]
   · exact vR (names:=r) h2
theorem sZ{scope:Scope}{env:Env}(hf:∀y∈scope.names,y.2=.free→∃c,env.cells.lookup y.1=some c):closureFor scope env=pure (js env.cells scope.names []):=by
 have key:∀(names:List (Str×NameKind))(cs:List (Str×Addr)),(∀y∈names,y.2=.free→∃c,env.cells.lookup y.1=some c)→
     (forIn names cs fun(x:Str×NameKind) (r:List (Str×Addr))=>(match x with
       | (name,kind)=>if(kind ==NameKind.free)=true then(do let a ←cellOf env name;pure (ForInStep.yield ((name,a)::r))) else pure (ForInStep.yield r):Sem (ForInStep (List (Str×Addr)))))=(pure (js env.cells names cs):Sem (List (Str×Addr))):=by
   intro names
   induction names with
   | nil=>intro cs _;rfl
   | cons y r ih=>
     intro cs h
     obtain⟨n,k⟩:=y
     rw[List.forIn_cons]
     by_cases hk:(k ==NameKind.free)=true
     · obtain⟨c,e⟩:=h (n,k) aan (eq_of_beq hk)
       have e:env.cells.lookup n=some c:=e
       have ec:cellOf env n=pure c:=by unfold cellOf;rw[e]
       simp only [hk,if_true,ec,pure_bind]
       rw[ih _ fun y hy=>h y (aag _ hy)]
       simp only [js,hk,if_true,e,Option.getD_some]
     · simp only [hk,if_false,pure_bind,aaV]
       rw[ih _ fun y hy=>h y (aag _ hy)]
       simp only [js,hk,if_false,aaV]
 have q:=key scope.names [] hf
 simp only [closureFor]
 first
   | (rw[q];rfl)
   | (simp only [q,pure_bind])
   | exact(congrArg (fun t=>t >>= pure) q).trans (pure_bind _ _)
theorem qz{f:Str→NameKind→NameKind}:∀{names:List (Str×NameKind)} {x:Str},(names.map fun y=>(y.1,f y.1 y.2)).lookup x=(names.lookup x).map (f x)
 | [],_=>rfl
 | (n,k)::r,x=>by
   show List.lookup x ((n,f n k)::_)=_
   rw[abw,abw]
   cases h:x ==n with
   | true=>rw[eq_of_beq h];rfl
   | false=>exact qz (names:=r)
theorem lB{scope:Scope}{env:Env}{x:Str}:(relabel scope env).names.lookup x=(scope.names.lookup x).map fun k=>if(k ==.free&&env.scope.kind ==.function&&env.kindOf x ==some .cell)=true then .cell else k:=by
 have e:(relabel scope env).names=scope.names.map fun y=>(y.1,(fun(n:Str) (k:NameKind)=>if(k ==.free&&env.scope.kind ==.function&&env.kindOf n ==some .cell)=true then NameKind.cell else k) y.1 y.2):=by
   show(scope.names.map _)=_
   refine abv fun y _=>?_
   obtain⟨n,k⟩:=y
   show(if(k ==.free&&env.scope.kind ==.function&&env.kindOf n ==some .cell)=true then(n,NameKind.cell) else(n,k))=(n,if(k ==.free&&env.scope.kind ==.function&&env.kindOf n ==some .cell)=true then NameKind.cell else k)
   split<;>rfl
 rw[e]
 exact qz (f:=fun(n:Str) (k:NameKind)=>if(k ==.free&&env.scope.kind ==.function&&env.kindOf n ==some .cell)=true then NameKind.cell else k)
def blank:List Nat→St→St
 | [],σ=>σ
 | i::r,σ=>blank r (σ.set i none)
theorem Bf:∀{is:List Nat} {σ:St},(blank is σ).length=σ.length
 | [],_=>rfl
 | i::r,σ=>by
   show(blank r (σ.set i none)).length=_
   rw[Bf,abM]
theorem BV{σ:St}{i j:Nat}{v:V}(h:(σ.set i none)[j]?=some (some v)):σ[j]?=some (some v)∧j≠i:=by
 by_cases e:j=i
 · subst e
   by_cases hl:j<σ.length
   · rw[aaZ hl] at h;cases h
   · rw[abd.mpr (by rw[abM];omega)] at h;cases h
 · rw[aa5 (Ne.symm e)] at h
   exact⟨h,e⟩
theorem Bg:∀{is:List Nat} {σ:St} {j:Nat} {v:V},(blank is σ)[j]?=some (some v)→σ[j]?=some (some v)∧j∉is
 | [],_,_,_,h=>⟨h,by simp⟩
 | i::r,σ,j,v,h=>by
   obtain⟨h1,h2⟩:=Bg (is:=r) (σ:=σ.set i none) h
   obtain⟨h3,h4⟩:=BV h1
   exact⟨h3,fun m=>(XU.mp m).elim h4 h2⟩
def Hk(N:List Str)(out:List (Str×NameKind))(is:List Nat)(names:List (Str×NameKind)):Bool:=
 (names.all fun y=>y.2 != .cell&&(y.2 != .free||out.lookup y.1 ==some .cell||out.lookup y.1 ==some .free)&&(y.2 != .local||names.lookup y.1 ==some .local))&&
 (N.zipIdx.all fun p=>names.lookup p.1 != some .local||is.contains p.2)
structure BW(N:List Str)(out:List (Str×NameKind))(is:List Nat)(names:List (Str×NameKind)):Prop where
 Fd:∀y∈names,y.2≠.cell
 free:∀y∈names,y.2=.free→out.lookup y.1=some .cell∨out.lookup y.1=some .free
 loc:∀y∈names,y.2=.local→names.lookup y.1=some .local
 own:∀(i:Nat)(x:Str),N[i]?=some x→names.lookup x=some .local→i∈is
theorem BW.of{N:List Str}{out:List (Str×NameKind)}{is:List Nat}{names:List (Str×NameKind)}(h:Hk N out is names=true):BW N out is names:=by
 unfold Hk at h
 rw[aaX] at h
 obtain⟨h1,h2⟩:=h
 have a:=abg.mp h1
 have b:=abg.mp h2
 refine⟨fun y hy e=>?_,fun y hy e=>?_,fun y hy e=>?_,fun i x hi e=>?_⟩
 · have q:=a y hy
   rw[e] at q
   simp at q
 · have q:=a y hy
   simp only [e,aaX,abN,bne_self_eq_false,aaV,false_or,beq_iff_eq] at q
   rcases q.1.2 with z|z
   · exact .inl z
   · exact .inr z
 · have q:=a y hy
   simp only [e,aaX,abN,bne_self_eq_false,aaV,false_or,beq_iff_eq] at q
   exact q.2
 · have hm:(x,i)∈N.zipIdx:=by
     rw[aaI]
     exact⟨i,by rw[List.getElem?_zipIdx,hi];simp⟩
   have q:=b (x,i) hm
   simp only [e,abN,bne_self_eq_false,aaV,false_or] at q
   exact List.contains_iff_mem.mp q
def Cx.block(X:Cx)(scope:Scope)(cl:List (Str×Addr))(C:Addr)(s:Shared)(H:Hp)(ex:List Addr):Cx:=
 {X with env:=compEnvC scope cl C X.env,s₀:=s,H₀:=H,outer:=X.stack,ex:=ex,fn:=fun _=>false,pn:=[],xe:=Lc}
section
variable{X:Cx}{pins:List (Addr×Obj)}{σ:St}{H:Hp}{s:Shared}{scope:Scope}{is:List Nat}{ex:List Addr}{C:Addr}
theorem yT(I:Inv X pins σ H s)(hs:BW X.N X.env.scope.names is scope.names):∀y∈scope.names,y.2=.free→∃c,X.env.cells.lookup y.1=some c:=fun y hy e=>I.ok.has y.1 (hs.free y hy e)
theorem mv(I:Inv X pins σ H s)(hs:BW X.N X.env.scope.names is scope.names){x:Str}{c:Addr}(h:(js X.env.cells scope.names []).lookup x=some c):X.env.cells.lookup x=some c:=
 (Be (yT I hs) h).resolve_left fun z=>nomatch z
theorem IP(I:Inv X pins σ H s)(hs:BW X.N X.env.scope.names is scope.names)(hk:scope.kind=.function)(hC:s.heap.objs.size≤C)(hf:∀b∈ex,tR X pins H b)(ho:∀b∈ex,∃o,s.heap.get? b=some o) :
   (X.block scope (js X.env.cells scope.names []) C s H ex).Ok where
 mod:=I.ok.mod
 kind:=hk
 glob:=I.ok.glob
 blt:=I.ok.blt
 above:=hC
 inj:=fun x y c h1 h2=>I.ok.inj x y c (mv I hs h1) (mv I hs h2)
 has:=fun x hx=>by
   have hx:(relabel scope X.env).names.lookup x=some .cell∨(relabel scope X.env).names.lookup x=some .free:=hx
   rw[lB] at hx
   cases e:scope.names.lookup x with
   | none=>
     rw[e] at hx
     rcases hx with z|z<;>cases z
   | some k=>
     have hm:(x,k)∈scope.names:=abb e
     have hk:k=.free:=by
       rw[e] at hx
       cases k with
       | free=>rfl
       | cell=>exact absurd rfl (hs.Fd _ hm)
       | _=>rcases hx with z|z<;>simp at z
     subst hk
     exact vR hm
 KQ:=fun _ _ h=>Bool.noConfusion h
 hd:=I.ok.hd
 frames:=I.ok.frames
 Mh:=.inl rfl
 Pb:=fun b hb=>by
   obtain⟨o,e⟩:=ho b hb
   exact⟨aaM (aaw (Heap.lt_size e) hC),fun x c h=>(hf b hb).2.2.2.2.1 x c (mv I hs h)⟩
 bs:=I.bs
 G9:=aac I.ok.G9 I.sz
 pO:=fun b o e hb=>by
   rcases(hf b hb).2.2.2.1 with z|z
   · exact I.ok.pO b o e z
   · exact absurd (aaw (Heap.lt_size (I.ok.bs b o e).1) z) (aa8 _)
 Df:=fun b hb hm=>by
   rcases XU.mp (I.vM b hm) with z|z
   · exact(hf b hb).2.1 z
   · exact(hf b hb).2.2.1 z
 qP:=I.stack
 Ij:=I.yp
theorem Hl{h':Heap}{t':Nat}{pl:List (Addr×Obj)}(I:Inv X pins σ H s)(hs:BW X.N X.env.scope.names is scope.names)(hk:scope.kind=.function)(hC:s.heap.objs.size≤C)(hf:∀b∈ex,tR X pins H b)(ho:∀b∈ex,∃o,s.heap.get? b=some o)
   (old:∀b o,s.heap.get? b=some o→h'.get? b=some o) {m:Str→Option Value} (hn:h'.Ns C m)
   (hp:∀p∈pl,h'.get? p.1=some p.2∧s.heap.objs.size≤p.1∧p.1≠C∧∀v,p.2.data≠.cell v) :
   Inv (X.block scope (js X.env.cells scope.names []) C s H ex) pl (blank is σ) H {s with heap:=h',toks:=t'} where
 ok:=IP I hs hk hC hf ho
 os:=rfl
 bare:=I.bare
 base:=Un.kept old
 loc:=⟨m,hn,fun i x v h1 h2 h3=>by
   have h3:(relabel scope X.env).names.lookup x=some .local∨(relabel scope X.env).names.lookup x=some .cell∨(relabel scope X.env).names.lookup x=some .free:=h3
   obtain⟨h2,hi⟩:=Bg h2
   have h1:X.N[i]?=some x:=h1
   cases e:scope.names.lookup x with
   | none=>
     rw[lB,e] at h3
     rcases h3 with z|z|z<;>cases z
   | some k=>
     have hm:(x,k)∈scope.names:=abb e
     have hk:k=.free:=by
       rw[lB,e] at h3
       cases k with
       | free=>rfl
       | cell=>exact absurd rfl (hs.Fd _ hm)
       | «local»=>exact absurd (hs.own i x h1 e) hi
       | _=>rcases h3 with z|z|z<;>simp at z
     subst hk
     have hv:X.env.scope.names.lookup x=some .cell∨X.env.scope.names.lookup x=some .free:=hs.free _ hm rfl
     obtain⟨m0,_,hl⟩:=I.loc
     obtain⟨u,r,q⟩:=hl i x v h1 h2 (.inr hv)
     refine⟨u,r,.inr ⟨?_,?_⟩⟩
     · show(relabel scope X.env).names.lookup x=some .cell∨(relabel scope X.env).names.lookup x=some .free
       rw[lB,e]
       show some (if _ then NameKind.cell else NameKind.free)=_∨some (if _ then NameKind.cell else NameKind.free)=_
       split
       · exact .inl rfl
       · exact .inr rfl
     · rcases q with⟨z,_⟩|⟨_,c,ec,cc⟩
       · have z:X.env.scope.names.lookup x=some .local:=z
         rcases hv with hv|hv<;>rw[hv] at z<;>cases z
       · obtain⟨c',e'⟩:=vR (cells:=X.env.cells) (cs:=[]) hm
         have e2:=mv I hs e'
         rw[ec] at e2
         cases e2
         obtain⟨o,ho,hd⟩:=cc
         exact⟨c,e',o,old _ _ ho,hd⟩⟩
 cell:=fun x c h=>by
   obtain⟨v,o,ho,hd⟩:=I.cell x c (mv I hs h)
   exact⟨v,o,old _ _ ho,hd⟩
 free:=I.iG.fresh hC
 k_:=fun x c h=>I.k_ x c (mv I hs h)
 pin:=fun p hp'=>by
   obtain⟨h1,h2,h3,h4⟩:=hp p (by simpa[Cx.block] using hp')
   refine⟨h1,I.iG.fresh h2,h3,fun hm=>?_,h4⟩
   rcases XU.mp (I.vM p.1 hm) with z|z
   · exact absurd (aaw I.lt (by rw[←z];exact h2)) (aa8 _)
   · exact I.P0 h2 z
 iG:=I.iG.kept old
 len:=by rw[Bf];exact I.len
end
theorem ir{X:Cx}{scope:Scope}{cl:List (Str×Addr)}{C:Addr}{s:Shared}{H:Hp}{ex:List Addr}:(X.block scope cl C s H ex).K=X.K:=rfl
theorem PE.eqv{X:Cx}{e:Expr}{t t':TE}(h:PE X e t')(q:t'=t):PE X e t:=q▸h
def Nv(X:Cx)(ifs:List Expr)(t:TT):Prop:=
 ∀(pins:List (Addr×Obj))(s:Shared)(σ:St)(H:Hp)(Q:Bool→Hp→Prop),Inv X pins σ H s→t σ H Q→
   wpAny (model X.prog X.w) X.A (forIn ifs true fun c r=>if r=true then do let ok ←isTrue c X.env (eval c X.env);pure (ForInStep.yield ok) else pure (ForInStep.yield r)) (TP X pins σ Q) X.xe s
def UN:TT:=fun _ H Q=>Q true H
theorem lC{X:Cx}:Nv X [] UN:=fun _ _ _ H _ I h=>wpAny_tests_nil ⟨H,I,h⟩
theorem pR{X:Cx}{c:Expr}{t:TT}(h:PT X c t):Nv X [c] t:=fun pins s σ H Q I hw=>wpAny_tests_one (h pins s σ H Q I hw)
def Hm(g:TG)(tt:TT)(te:TE)(J:It)(Q:List V→Hp→Prop)(σ:St)(H:Hp):Prop:=
 ∃W:Nat→Nat→List V→St→Hp→Prop,(∃m,W 0 m [] σ H)∧∀i m ys σ H,W i m ys σ H→
   (J.stop i H∧ys.length≤sizeLine∧Q ys H)∨
   (J.go i H∧ys.length≤sizeLine∧∃N:List V→St→Hp→Prop,(∀Po σ' H',N Po σ' H'→∃m',m'<m∧W (i+1) m' Po σ' H')∧
     ∀x H',J.Iu i H x H'→g x σ H' fun σ2 H2=>tt σ2 H2 fun b H3=>if b=true then te σ2 H3 fun v H4=>N (ys++[v]) σ2 H4 else N ys σ2 H3)
def S4(is:List Nat)(wi:TI)(g:TG)(tt:TT)(te:TE):TE:=fun σ H Q=>wi σ H fun J H1=>Hm g tt te J (fun ys H2=>∀p,H2 p=none→Q (.ref p) (upd H2 p (.lst ys))) (blank is σ) H1
section
variable{P:Program}{w:World}
theorem pN.Gm{H:Hp}{h:Heap}{a:Addr}{o:HO}(x:pN P w H h)(hn:H a=none)(new:i9 P w (upd H a o) h a o):pN P w (upd H a o) h:=fun b u q=>by
 by_cases hb:b=a
 · subst hb;rw[b_] at q;cases q;exact new
 · rw[de hb] at q
   exact(x b u q).vL (fun _ _ _ r=>r) (fun c r=>by rw[de (gg r hn)];exact r) fun c xs r=>by rw[de (gg r hn)];exact r
end
abbrev BX(ys:List Value)(n:Nat):Obj:={cls:=.type "list",data:=.seq ys.toArray n}
section
variable{X:Cx}{pins:List (Addr×Obj)}{σ:St}{H:Hp}{s:Shared}{scope:Scope}{is:List Nat}
theorem Bh{E:Value→Shared→Prop}{elt tg iter:Expr}{ifs:List Expr}{pos:Pos}{it:Addr}{fp:List Addr}{tn:Nat→Heap→Prop}{J:It}{g:TG}{tt:TT}{te:TE}{Fin:List V→Hp→Prop}{RR:Value→Addr→Result→Shared→Prop}
   (I:Inv X pins σ H s) (hc:X.calm=true) (hs:BW X.N X.env.scope.names is scope.names) (hk:scope.kind=.function)
   (hg:∀C s H ex,PG (X.block scope (js X.env.cells scope.names []) C s H ex) tg g) (ht:∀C s H ex,Nv (X.block scope (js X.env.cells scope.names []) C s H ex) ifs tt)
   (he:∀C s H ex,PE (X.block scope (js X.env.cells scope.names []) C s H ex) elt te)
   (T:Turn X.prog X.w X.K tg J fp it tn) (st:tn 0 s.heap) (hf:∀b∈fp,tR X pins H b) (h:Hm g tt te J Fin (blank is σ) H)
   (hRR:∀(D C:Addr)(ys:List V)(hX:List Value)(n:Nat)(H':Hp)(s':Shared)(m:Str→Option Value),s.heap.objs.size≤D→s.heap.objs.size≤C→D≠C→s'.heap.Ns C m→s'.heap.get? D=some (BX hX n)→Vals ys hX→ys.length≤sizeLine→
     H' D=none→H' C=none→s'.os=s.os→AllBare s'.gens→Un (qO X.stack) fp H H' s.heap s'.heap→pN X.prog X.w H' s'.heap→Fin ys H'→RR (.ref D) C (.ok .next) s') :
   wpAny (model X.prog X.w) X.A (newList []) (fun acc s3=>wpAny (model X.prog X.w) X.A (newFunctionEnv scope X.env.globals (js X.env.cells scope.names []) [] X.env.qual none .none (some X.env)) (fun Rg s4=>
     codeAny (model X.prog X.w) X.A (.compStart (.ListComp elt [⟨tg,iter,ifs,0⟩] scope pos) 0 (.ref it) acc {Rg with scope:=relabel scope X.env}) (RR acc Rg.locals) s4) E s3) E s:=by
 refine wpAny_newObj_type (wpAny_newFunctionEnv hs.Fd (by intro y hy;simp at hy) (fun h1 OI LZ=>?_) hk)
 dsimp only at OI LZ ⊢
 generalize Vn:s.heap.push {cls:=.type "list",dict:=none,data:=.seq ([]:List Value).toArray}=H2 at OI LZ ⊢
 have hC:H2.objs.size=s.heap.objs.size+1:=by rw[←Vn,Heap.size_push]
 have L3:s.heap.objs.size≠H2.objs.size:=by rw[hC];exact aaM (abJ _)
 have Rh:s.heap.objs.size≤H2.objs.size:=by rw[hC];exact Nat.le_succ _
 have below:∀b,b<s.heap.objs.size→b≠H2.objs.size∧b≠s.heap.objs.size:=fun b hb=>⟨by rw[hC];exact aaM (Nat.lt_succ_of_lt hb),aaM hb⟩
 have old:∀b o,s.heap.get? b=some o→h1.get? b=some o:=fun b o e=>LZ.extBut b o (below b (Heap.lt_size e)).1 (Heap.get?_push_of_some _ (Vn▸Heap.get?_push_of_some _ e))
 have vH:h1.get? s.heap.objs.size=some (BX [] 0):=LZ.extBut _ _ L3 (Heap.get?_push_of_some _ (Vn▸Heap.get?_push_size _ rfl))
 have Ri:∀b∈fp,∃o,s.heap.get? b=some o:=fun b hb=>let ⟨o,e,_⟩:=T.obj 0 _ st b hb;⟨o,e⟩
 have Yi:∀b∈fp,b≠s.heap.objs.size:=fun b hb=>let ⟨o,e⟩:=Ri b hb;(below b (Heap.lt_size e)).2
 have hfC:∀b∈fp,b≠H2.objs.size:=fun b hb=>let ⟨o,e⟩:=Ri b hb;(below b (Heap.lt_size e)).1
 generalize hD:s.heap.objs.size=D at *
 generalize hCC:H2.objs.size=C at *
 have Rj:∀x c,(js X.env.cells scope.names []).lookup x=some c→c≠D:=fun x c e z=>by
   obtain⟨v,q⟩:=I.cell x c (mv I hs e)
   exact absurd q.lt (by rw[z,hD];exact aa8 _)
 let XB:=X.block scope (js X.env.cells scope.names []) C s H fp
 have I1:Inv XB [(D,BX [] 0)] (blank is σ) H {s with heap:=h1,toks:=s.toks+([]:List (Str×Value)).length}:=
   Hl I hs hk (by rw[hD];exact Rh) hf Ri old OI fun p hp=>by
     rw[UP.mp hp]
     exact⟨vH,Nat.le_of_eq hD,L3,fun v z=>nomatch z⟩
 have Vo:∀{pl:List (Addr×Obj)} {H':Hp},(∀p∈pl,p.1=D)→(∀b∈fp,H' b=none)→∀b∈fp,tR XB pl H' b:=fun{pl H'} oW hn b hb=>
   ⟨hn b hb,hfC b hb,fun hm=>by
     rcases XU.mp (I.vM b hm) with z|z
     · exact(hf b hb).2.1 z
     · exact(hf b hb).2.2.1 z,.inl hb,fun x c e=>(hf b hb).2.2.2.2.1 x c (mv I hs e),fun p hp=>by
     have hp:p∈pl:=by simpa[XB,Cx.block] using hp
     rw[oW p hp]
     exact Ne.symm (Yi b hb)⟩
 obtain⟨W,⟨m0,w0⟩,turn⟩:=h
 have Ia:tn 0 h1:=T.keep _ _ _ st fun b _ o e=>old b o e
 have loop:codeAny (model X.prog X.w) X.A (.compLoop (.ListComp elt [⟨tg,iter,ifs,0⟩] scope pos) 0 (.ref it) (.ref D) (compEnvC scope (js X.env.cells scope.names []) C X.env)) (RR (.ref D) C) {s with heap:=h1,toks:=s.toks+([]:List (Str×Value)).length}:=by
   refine BU (fun k s'=>∃i ys hX n σ' H',Inv XB [(D,BX hX n)] σ' H' s'∧Vals ys hX∧tn i s'.heap∧(∀b∈fp,H' b=none)∧W i k ys σ' H') ?_ m0 ⟨0,[],[],0,_,_,I1,.nil,Ia,fun b hb=>(hf b hb).1,w0⟩
   rintro k s3 ⟨i,ys,hX,n,σ3,H3,I3,vs,qx,Q8,w3⟩
   have oW:∀p∈[(D,BX hX n)],p.1=D:=fun p hp=>by rw[UP.mp hp]
   rcases turn i k ys σ3 H3 w3 with⟨stop,hz,qn⟩|⟨go,hz,N,hN,step⟩
   · refine iY (T.done XB rfl rfl rfl hc i _ s3 σ3 H3 Lc I3 (Vo oW Q8) qx stop) fun r s4 ⟨hr,I4⟩=>?_
     subst hr
     obtain⟨m',MA,_⟩:=I4.loc
     have pD:=I4.pin (D,BX hX n) (by simp[XB,Cx.block])
     exact hRR D C ys hX n H3 s4 m' (UU _) Rh L3 MA pD.1 vs hz pD.2.1 I4.free I4.os I4.bare I4.base I4.iG qn
   · refine iY (T.item XB rfl rfl rfl hc i _ s3 σ3 H3 Lc I3 (Vo oW Q8) qx go) fun r s4 ⟨u,hr,h4⟩=>?_
     subst hr
     refine iY h4 fun _ s5 ⟨x,H5,I5,r5,y5,OB,Vc⟩=>?_
     have Vd:=I5.pinned (Vo oW Vc) (T.obj _ _ OB)
     refine iY (hg C s H fp _ s5 σ3 H5 x u _ Vd r5 (step x H5 y5)) fun _ s6 ⟨σ6,H6,I6,q6⟩=>?_
     have vI:∀{σ7:St} {H7:Hp} {s7:Shared},Inv XB ([(D,BX hX n)]++yJ fp s5.heap) σ7 H7 s7→tn (i+1) s7.heap∧∀b∈fp,H7 b=none:=fun{σ7 H7 s7} I7=>
       ⟨T.keep _ _ _ OB fun b hb o e=>(I7.pin (b,o) (aaC _ (aaC _ (pP hb e)))).1,fun b hb=>by
         obtain⟨o,e,d⟩:=T.obj _ _ OB b hb
         exact(I7.pin (b,o) (aaC _ (aaC _ (pP hb e)))).2.1⟩
     refine iY (ht C s H fp _ s6 σ6 H6 _ I6 q6) fun ok s7 ⟨H7,I7,q7⟩=>?_
     cases ok with
     | false=>
       rw[aak aad] at q7 ⊢
       obtain⟨m',hm,w7⟩:=hN _ _ _ q7
       exact⟨m',hm,i+1,ys,hX,n,σ6,H7,I7.uB,vs,(vI I7).1,(vI I7).2,w7⟩
     | true=>
       rw[aap rfl] at q7 ⊢
       refine iY (he C s H fp _ s7 σ6 H7 _ I7 q7) fun y s8 ⟨v,H8,I8,r8,n8⟩=>?_
       obtain⟨m',hm,w8⟩:=hN _ _ _ n8
       obtain⟨st8,fr8⟩:=vI I8
       have pD:=I8.pin (D,BX hX n) (by simp)
       have hl:=vs.length
       refine append_at (hsz:=by show hX.toArray.size≤sizeLine;rw[aae,←hl];exact hz) pD.1 fun h9 Yj e9=>?_
       have I9:Inv XB [] σ6 H8 {s8 with heap:=h9}:=by
         have J8:Inv XB [] σ6 H8 s8:=I8.yq fun p hp=>nomatch hp
         exact J8.turned (t':=s8.toks) (it:=D) (fun b o hb e=>Yj.extBut b o hb e) pD.2.1 L3 (.inr (Nat.le_of_eq hD)) (fun x c e=>Rj x c e) fun p hp=>by simp[XB,Cx.block] at hp
       refine⟨m',hm,i+1,ys++[v],hX++[y],n+1,σ6,H8,I9.yq fun p hp=>?_,vs.append (.cons r8 .nil),T.keep _ _ _ st8 fun b hb o e=>Yj.extBut b o (Yi b hb) e,fr8,w8⟩
       rw[UP.mp hp]
       refine⟨?_,pD.2.1,L3,fun hm=>?_,fun v z=>nomatch z⟩
       · rw[e9]
         show some _=some _
         rw[List.push_toArray]
       · exact pD.2.2.2.1 hm
 exact codeAny_compStart_list loop (T.self _ 0 _ _ _ Ia loop)
variable{elt tg iter:Expr}{ifs:List Expr}{pos Kg py:Pos}{wi:TI}{g:TG}{tt:TT}{te:TE}
theorem wZ{D:Addr}{ys:List V}{hX:List Value}{n:Nat}{H':Hp}{s':Shared}{fp:List Addr}(I:Inv X pins σ H s)(hf:∀b∈fp,tR X pins H b)(hD:s.heap.objs.size≤D)(e:s'.heap.get? D=some (BX hX n))(vs:Vals ys hX)(hz:ys.length≤sizeLine)
   (nD:H' D=none) (os:s'.os=s.os) (bare:AllBare s'.gens) (un:Un (qO X.stack) fp H H' s.heap s'.heap) (iG:pN X.prog X.w H' s'.heap):Inv X pins σ (upd H' D (.lst ys)) s':=by
 have neD:∀b o,s.heap.get? b=some o→b≠D:=fun b o q=>aaM (aaw (Heap.lt_size q) hD)
 refine I.Mi (ch:=fp) os ⟨un.keep,un.slot,fun b o q nn hx=>by rw[de (neD b o q)];exact un.free b o q nn hx,un.there,fun b xs q=>?_,fun b o u q=>?_,fun b ps q=>?_⟩ (iG.Gm nD ⟨hz,hX,n,vs,e⟩) bare fun b hb=>?_
 · have q':=un.oH b xs q
   rw[de (gg q' nD)];exact q'
 · have q':=un.qQ b o u q
   rw[de (gg q' nD)];exact q'
 · obtain⟨more,q'⟩:=un.tP b ps q
   exact⟨more,by rw[de (gg q' nD)];exact q'⟩
 · obtain⟨f0,f1,f2,f3,f4,f5⟩:=hf b hb
   exact⟨f3,f1,f4,f5⟩
theorem yU{C:Addr}{h':Heap}{s0:Shared}(I:Inv X pins σ H s)(hC:s0.heap.objs.size≤C)(nC:H C=none)(Rl:Heap.SameBut C s.heap h')(I0:∃σ0 H0,Inv X pins σ0 H0 s0):Inv X pins σ H {s with heap:=h'}:=by
 obtain⟨σ0,H0,I0⟩:=I0
 obtain⟨_,f1,_,f3,f4,f5⟩:=I0.yH (H':=fun _=>none) hC rfl
 exact I.turned (t':=s.toks) (fun b o hb e=>Rl.extBut b o hb e) nC f1 f3 f4 f5
theorem qW(N:List Str)(out:List (Str×NameKind))(is:List Nat)(hc:X.calm=true)(hi:PI X tg iter wi)(hk:scope.kind=.function)(hs:Hk N out is scope.names=true)
   (hg:∀C s H ex,PG (X.block scope (js X.env.cells scope.names []) C s H ex) tg g) (ht:∀C s H ex,Nv (X.block scope (js X.env.cells scope.names []) C s H ex) ifs tt)
   (he:∀C s H ex,∃t,PE (X.block scope (js X.env.cells scope.names []) C s H ex) elt t∧t=te) (qM:∀x,foldedSetIterable iter X.env x=pure x:=by intro _;rfl) (eN:X.N=N:=by rfl) (eo:X.env.scope.names=out:=by rfl) :
   PE X (.ListComp elt [⟨tg,iter,ifs,0⟩] scope pos) (S4 is wi g tt te):=by
 intro pins s σ H Q I h
 subst eN eo
 have S:=BW.of hs
 rw[eval_ListComp]
 refine wpAny_comprehension_free (use:=none) rfl qM (sZ (yT I S)) hk S.loc (iY (hi pins s σ H _ I h) fun v s1 h1=>iY h1 fun Ta s2 h2=>?_)
 obtain⟨it,fp,tn,J,H2,rfl,I2,T,AV,f2,h2⟩:=h2
 refine Bh (RR:=fun acc C=>compPost (model X.prog X.w) X.A X.xe none (EP X pins σ Q) acc C) I2 hc S hk hg ht (fun C s H ex=>let ⟨_,h,e⟩:=he C s H ex;PE.eqv h e) T AV f2 h2 ?_
 intro D C ys hX n H' s' m hD hC L3 hn e vs hz nD nC os bare un iG q
 have J1:Inv X pins σ (upd H' D (.lst ys)) s':=wZ I2 f2 hD e vs hz nD os bare un iG
 refine⟨m,hn,fun h' Rl=>⟨.ref D,_,yU J1 hC (by rw[de (Ne.symm L3)];exact nC) Rl ⟨_,_,I2⟩,rfl,q D nD⟩⟩
theorem DG{y:Str}{j:Nat}(N:List Str)(out:List (Str×NameKind))(is:List Nat)(hN:X.N.Nodup)(hj:X.N[j]?=some y)(hy:X.env.scope.names.lookup y=some .local)(hc:X.calm=true)(hi:PI X tg iter wi)(hk:scope.kind=.function)(hs:Hk N out is scope.names=true)
   (hg:∀C s H ex,PG (X.block scope (js X.env.cells scope.names []) C s H ex) tg g) (ht:∀C s H ex,Nv (X.block scope (js X.env.cells scope.names []) C s H ex) ifs tt)
   (he:∀C s H ex,∃t,PE (X.block scope (js X.env.cells scope.names []) C s H ex) elt t∧t=te)
   (Vp:swapsWith (.ListComp elt [⟨tg,iter,ifs,0⟩] scope pos) (some (.Name y py)) Kg.line X.env=pure true:=by rfl) (qM:∀x,foldedSetIterable iter X.env x=pure x:=by intro _;rfl) (eN:X.N=N:=by rfl) (eo:X.env.scope.names=out:=by rfl) :
   PS X (.Assign [.Name y py] (.ListComp elt [⟨tg,iter,ifs,0⟩] scope pos) Kg) (KW (S4 is wi g tt te) (F_ j)):=by
 intro pins s σ H Dn I h
 subst eN eo
 have S:=BW.of hs
 rw[exec_Assign_Name_used _ _ _ _ Vp]
 refine wpAny_bind (wpAny_standAt (wpAny_bind ?_))
 show wpAny _ _ (do let _ ←comprehension (.ListComp elt [⟨tg,iter,ifs,0⟩] scope pos) scope X.env _ (newList []) false (eval iter X.env) (some (assign (.Name y py) X.env))) _ _ s
 refine wpAny_bind (wpAny_mono (wpAny_comprehension_free (use:=some (assign (.Name y py) X.env)) (Q:=fun _ s'=>SP X pins Dn .next s') rfl qM (sZ (yT I S)) hk S.loc
   (iY (hi pins s σ H _ I h) fun v s1 h1=>iY h1 fun Ta s2 h2=>?_)) (fun _ s' hq=>wpAny_pure (wpAny_pure hq)) fun _ _ e=>e)
 obtain⟨it,fp,tn,J,H2,rfl,I2,T,AV,f2,h2⟩:=h2
 refine Bh (RR:=fun acc C=>compPost (model X.prog X.w) X.A X.xe (some (assign (.Name y py) X.env)) (fun _ s'=>SP X pins Dn .next s') acc C) I2 hc S hk hg ht (fun C s H ex=>let ⟨_,h,e⟩:=he C s H ex;PE.eqv h e) T AV f2 h2 ?_
 intro D C ys hX n H' s' m hD hC L3 hn e vs hz nD nC os bare un iG q
 have J1:Inv X pins σ (upd H' D (.lst ys)) s':=wZ I2 f2 hD e vs hz nD os bare un iG
 show wpAny _ _ (assign (.Name y py) X.env (.ref D)) _ _ _
 refine wpAny_assign_Name (A3 J1 hN hj (.inl hy) (v:=.ref D) rfl (fun s5 J5 ⟨a,sb,ha⟩=>?_) (.inr hy))
 have hCa:C≠a:=by
   obtain⟨_,f1,_,f3,f4,f5⟩:=I2.yH (H':=fun _=>none) hC rfl
   rcases ha with z|z
   · rw[z];exact f1
   · exact fun q=>f4 _ _ z q.symm
 exact⟨m,hn.sameBut sb hCa,fun h' Rl=>⟨_,_,yU J5 hC (by rw[de (Ne.symm L3)];exact nC) Rl ⟨_,_,I2⟩,q D nD⟩⟩
end
section
variable{X:Cx}{elt tg iter:Expr}{ifs:List Expr}{scope:Scope}{pos:Pos}{wi:TI}{g:TG}{tt:TT}{te:TE}{py Kg:Pos}
theorem yV(N:List Str)(out:List (Str×NameKind))(is:List Nat)(hc:X.calm=true)(hi:PI X tg iter wi)(hk:scope.kind=.function)(hs:Hk N out is scope.names=true)
   (hg:∀C s H ex,PG (X.block scope (js X.env.cells scope.names []) C s H ex) tg g) (ht:∀C s H ex,∃t,Nv (X.block scope (js X.env.cells scope.names []) C s H ex) ifs t∧t=tt)
   (he:∀C s H ex,∃t,PE (X.block scope (js X.env.cells scope.names []) C s H ex) elt t∧t=te) (qM:∀x,foldedSetIterable iter X.env x=pure x:=by intro _;rfl) (eN:X.N=N:=by rfl) (eo:X.env.scope.names=out:=by rfl) :
   PE X (.ListComp elt [⟨tg,iter,ifs,0⟩] scope pos) (S4 is wi g tt te):=qW N out is hc hi hk hs hg (fun C s H ex=>let ⟨_,h,e⟩:=ht C s H ex;e▸h) he qM eN eo
theorem BY{y:Str}{j:Nat}(N:List Str)(out:List (Str×NameKind))(is:List Nat)(hN:X.N.Nodup)(hj:X.N[j]?=some y)(hy:X.env.scope.names.lookup y=some .local)(hc:X.calm=true)(hi:PI X tg iter wi)(hk:scope.kind=.function)(hs:Hk N out is scope.names=true)
   (hg:∀C s H ex,PG (X.block scope (js X.env.cells scope.names []) C s H ex) tg g) (ht:∀C s H ex,∃t,Nv (X.block scope (js X.env.cells scope.names []) C s H ex) ifs t∧t=tt)
   (he:∀C s H ex,∃t,PE (X.block scope (js X.env.cells scope.names []) C s H ex) elt t∧t=te)
   (Vp:swapsWith (.ListComp elt [⟨tg,iter,ifs,0⟩] scope pos) (some (.Name y py)) Kg.line X.env=pure true:=by rfl) (qM:∀x,foldedSetIterable iter X.env x=pure x:=by intro _;rfl) (eN:X.N=N:=by rfl) (eo:X.env.scope.names=out:=by rfl) :
   PS X (.Assign [.Name y py] (.ListComp elt [⟨tg,iter,ifs,0⟩] scope pos) Kg) (KW (S4 is wi g tt te) (F_ j)):=DG N out is hN hj hy hc hi hk hs hg (fun C s H ex=>let ⟨_,h,e⟩:=ht C s H ex;e▸h) he Vp qM eN eo
end
theorem qX{lo:Int}{n:Nat}{g:TG}{tt:TT}{te:TE}{Q:List V→Hp→Prop}{σ:St}{H:Hp}(hn:n≤sizeLine)(Pv:Nat→List V→St→Hp→Prop)(h0:Pv 0 [] σ H)(hlen:∀i ys σ H,Pv i ys σ H→ys.length≤i)
   (hs:∀i ys σ H,i<n→Pv i ys σ H→g (.int (lo+i)) σ H fun σ2 H2=>tt σ2 H2 fun b H3=>if b=true then te σ2 H3 fun v H4=>Pv (i+1) (ys++[v]) σ2 H4 else Pv (i+1) ys σ2 H3)
   (hd:∀ys σ H,Pv n ys σ H→Q ys H):Hm g tt te (Mj lo n) Q σ H:=by
 refine⟨fun i m ys σ H=>m=n-i∧i≤n∧Pv i ys σ H,⟨n,by simp,aaD _,h0⟩,?_⟩
 rintro i m ys σ H ⟨rfl,hi,p⟩
 have hl:=hlen i ys σ H p
 by_cases lu:i<n
 · refine .inr ⟨lu,by omega,Pv (i+1),fun Po σ' H' p'=>⟨n-(i+1),by omega,rfl,lu,p'⟩,fun x H' y=>?_⟩
   obtain⟨rfl,rfl⟩:=y
   exact hs i ys σ _ lu p
 · have e:i=n:=by omega
   subst e
   exact .inl ⟨UU _,by omega,hd ys σ H p⟩
theorem j2{K:PySem.W.Frag}{a:Addr}{xs:List V}{g:TG}{tt:TT}{te:TE}{Q:List V→Hp→Prop}{σ:St}{H:Hp}(hn:xs.length≤sizeLine)(Pv:Nat→List V→St→Hp→Prop)(h0:Pv 0 [] σ H)(hl:∀i ys σ H,i≤xs.length→Pv i ys σ H→hV K H a xs∧ys.length≤i)
   (hs:∀i x ys σ H,xs[i]?=some x→Pv i ys σ H→g x σ H fun σ2 H2=>tt σ2 H2 fun b H3=>if b=true then te σ2 H3 fun v H4=>Pv (i+1) (ys++[v]) σ2 H4 else Pv (i+1) ys σ2 H3)
   (hd:∀ys σ H,Pv xs.length ys σ H→Q ys H):Hm g tt te (Pc K a) Q σ H:=by
 refine⟨fun i m ys σ H=>m=xs.length-i∧i≤xs.length∧Pv i ys σ H,⟨xs.length,by simp,aaD _,h0⟩,?_⟩
 rintro i m ys σ H ⟨rfl,hi,p⟩
 obtain⟨q,hy⟩:=hl i ys σ H hi p
 by_cases lu:i<xs.length
 · refine .inr ⟨⟨xs,xs[i],q,by simp[lu]⟩,by omega,Pv (i+1),fun Po σ' H' p'=>⟨xs.length-(i+1),by omega,rfl,lu,p'⟩,fun x H' y=>?_⟩
   obtain⟨rfl,y⟩:=y
   exact hs i x ys σ _ (y xs q) p
 · have e:i=xs.length:=by omega
   subst e
   exact .inl ⟨⟨xs,q,UU _⟩,by omega,hd ys σ H p⟩
end L2
namespace PySem
section
variable{prog:Program}{w:World}{A:Around}{E:Value→Shared→Prop}{s:Shared}
end
end PySem
namespace L2
open PySem PySem.Spec PyProof.Rows
def Qo(lo st:Int)(n:Nat):It:=⟨fun i _=>i<n,fun i H x H'=>H'=H∧x=.int (lo+i*st),fun i _=>n≤i⟩
theorem DH{P:Program}{w:World}{K:PySem.W.Frag}{tg:Expr}(it:Addr)(lo st:Int)(n:Nat):Turn P w K tg (Qo lo st n) [it] it (fun i h=>IsRangeIter h it (lo+(i:Nat)*st) ((n:Int)-(i:Nat)) st) where
 mem:=by simp
 obj:=fun i h st b hb=>by
   have e:b=it:=by simpa using hb
   subst e
   exact⟨_,st,fun v z=>by
     have z':Data.fields _=Data.cell v:=z
     cases z'⟩
 keep:=fun i h h' st k=>k it (by simp) _ st
 item:=by
   intro X hP hw hK hc i pins s σ H E I hf stt hg
   subst hP hw hK
   obtain⟨f0,f1,f2,f3,f4,f5⟩:=hf it (by simp)
   have W:=Walks.range (prog:=X.prog) (w:=X.w) (I.ok.hd hc) it lo st n
   refine W.item i s _ _ hg stt fun v h' tk hv AU kk=>?_
   obtain⟨t,rfl⟩:=hv
   have I1:Inv X pins σ H {s with heap:=h',toks:=tk}:=I.turned (fun b o hb e=>kk b o (by simpa using hb) e) f0 f1 f3 f4 f5
   exact⟨_,rfl,yI (s:={s with heap:=h',toks:=tk}) (n:="range_iterator") AU rfl rfl (by decide) ⟨.int (lo+i*st),H,I1,⟨t,rfl⟩,⟨rfl,rfl⟩,AU,fun b hb=>(hf b hb).1⟩⟩
 done:=by
   intro X hP hw hK hc i pins s σ H E I hf st hg
   subst hP hw hK
   obtain⟨f0,f1,f2,f3,f4,f5⟩:=hf it (by simp)
   exact wpAny_pyNext_range_end (I.ok.hd hc) st (by have:n≤i:=hg;omega) fun h' eb=>⟨rfl,I.turned (t':=s.toks) (fun b o hb e=>eb b o hb e) f0 f1 f3 f4 f5⟩
 self:=fun _ _ _ _ _ st h=>wpAny_pyIter_rangeiter st h
theorem rangeSize_down(a b:Int):Builtin.Range.rangeSize a b (-1)=((a-b).toNat:Int):=by
 unfold Builtin.Range.rangeSize
 simp only [show ¬((-1:Int)>0) by decide,if_false]
 have e:(- -1:Int)=1:=by decide
 rw[e,Int.ediv_one]
 split<;>omega
theorem small_down{a b:Int}(ha:-(2 ^ 61)≤a)(ha':a<2 ^ 61)(hb:-(2 ^ 61)≤b)(Vq:b<2 ^ 61):Builtin.Range.small a b (-1)=true:=by
 unfold Builtin.Range.small
 rw[rangeSize_down]
 simp only [Builtin.Range.rangeFitsLong,aaX,abN,decide_eq_true_eq,beq_iff_eq,show ¬((-1:Int)>0) by decide,if_false]
 omega
section
variable{X:Cx}{tg:Expr}
def Qp(ta:TA):TI:=fun σ H R=>ta σ H fun vs H1=>∃i j:Int,vs=[.int i,.int j,.int (-1)]∧(-(2 ^ 61)≤i∧i<2 ^ 61∧-(2 ^ 61)≤j∧j<2 ^ 61)∧R (Qo i (-1) (i-j).toNat) H1
theorem vS{a b c:Expr}{ta:TA}{p pos:Pos}(hg:Gl X "range")(hm:X.mg "range"=none)(ha:PA X [a,b,c] ta)(hs:starEach [a,b,c] X.env=[(false,eval a X.env),(false,eval b X.env),(false,eval c X.env)]:=by rfl)
   (Im:starEach [b,c] X.env=[(false,eval b X.env),(false,eval c X.env)]:=by rfl):PI X tg (.Call (.Name "range" p) [a,b,c] [] pos) (Qp ta):=by
 intro pins s σ H R I h
 refine Call_ (oI I hg hm boot_range (aaP (iY (ha pos pins s σ H _ I h) fun us s1 ⟨vs,H1,I1,r1,q1⟩=>?_) (by rw[hs,Im]) (by rw[Im];rfl)))
 obtain⟨i,j,e,⟨q1,q2,q3,q4⟩,q⟩:=q1
 subst e
 cases r1 with
 | cons r rr=>
   cases rr with
   | cons r' rr=>
     cases rr with
     | cons r'' rr=>
       cases rr
       obtain⟨t,rfl⟩:=r
       obtain⟨t',rfl⟩:=r'
       obtain⟨Yk,rfl⟩:=r''
       refine call_range_3 (by decide) ?_ (Or.inl (PyProof.noPylong_small (by decide)))
       refine wpAny_pyIter_range (IsRange.new ..) (small_down q1 q2 q3 q4) ?_
       generalize ho:({cls:=.type "range",data:=.fields #[.int i t,.int j t',.int (-1) Yk]}:Obj)=o
       have I2:Inv X pins σ H1 {s1 with heap:=s1.heap.push o,toks:=s1.toks}:=I1.kept fun b o e=>Heap.get?_push_of_some _ e
       refine⟨(s1.heap.push o).objs.size,[(s1.heap.push o).objs.size],_,_,H1,rfl,I2.kept (t':=s1.toks) fun b o e=>Heap.get?_push_of_some _ e,DH _ i (-1) (i-j).toNat,?_,fun b hb=>?_,q⟩
       · show IsRangeIter _ _ (i+((0:Nat):Int)*(-1)) ((((i-j).toNat:Nat):Int)-((0:Nat):Int)) (-1)
         have e1:i+((0:Nat):Int)*(-1)=i:=by simp
         have e2:(((i-j).toNat:Nat):Int)-((0:Nat):Int)=Builtin.Range.rangeSize i j (-1):=by rw[rangeSize_down];simp
         rw[e1,e2]
         exact Heap.get?_push_size _ rfl
       · have e:b=(s1.heap.push o).objs.size:=by simpa using hb
         subst e
         exact I2.yH (UU _) (I2.iG.fresh (UU _))
end
theorem tU{lo st:Int}{n:Nat}{g:TG}{tb:TS}{D:Ends}{σ:St}{H:Hp}(Pv:Nat→St→Hp→Prop)(h0:Pv 0 σ H)
   (hs:∀i σ H,i<n→Pv i σ H→g (.int (lo+i*st)) σ H fun σ2 H2=>tb {D with nx:=Pv (i+1),ct:=Pv (i+1),bk:=D.nx} σ2 H2) (hd:∀σ H,Pv n σ H→D.nx σ H) :
   ∃W:Nat→Nat→St→Hp→Prop,(∃m,W 0 m σ H)∧∀i m σ H,W i m σ H→
     ((Qo lo st n).stop i H∧D.nx σ H)∨((Qo lo st n).go i H∧∃N:St→Hp→Prop,(∀σ' H',N σ' H'→∃m',m'<m∧W (i+1) m' σ' H')∧∀x H',(Qo lo st n).Iu i H x H'→g x σ H' fun σ2 H2=>tb {D with nx:=N,ct:=N,bk:=D.nx} σ2 H2):=by
 refine⟨fun i m σ H=>m=n-i∧i≤n∧Pv i σ H,⟨n,by simp,aaD _,h0⟩,?_⟩
 rintro i m σ H ⟨rfl,hi,p⟩
 by_cases lu:i<n
 · refine .inr ⟨lu,Pv (i+1),fun σ' H' p'=>⟨n-(i+1),by omega,rfl,lu,p'⟩,fun x H' y=>?_⟩
   obtain⟨e,y⟩:=y
   subst e y
   exact hs i σ _ lu p
 · have e:i=n:=by omega
   subst e
   exact .inl ⟨UU _,hd σ H p⟩
section
variable{X:Cx}
theorem yW:∀{xs:List Str} {us:List Value},Vals (xs.map V.str) us→StrsAre us xs
 | [],_,h=>by cases h;exact .nil
 | x::r,_,h=>by
   cases h with
   | cons a t=>
     obtain⟨tk,rfl⟩:=a
     exact .cons x tk (yW t)
def rJoin(K:PySem.W.Frag):V→List V→Hp→VK→Prop:=fun x vs H Q=>∃z l xs,x=.str z∧vs=[.ref l]∧hV K H l (xs.map V.str)∧(xs.map (·.length)).sum+xs.length*z.length≤16777216∧Q (.str (Txt.join z xs)) H
theorem Ld:Uz X "str.join" (rJoin X.K):=by
 intro pins s σ H x xs v us Q I rx r h
 obtain⟨z,l,ys,rfl,rfl,hl,hz,q⟩:=h
 obtain⟨u,rfl,ru⟩:=vals1 r
 cases ru
 obtain⟨t,rfl⟩:=rx
 obtain⟨hX,rv,p,_⟩:=I.list hl
 exact join_list p.isList (by simpa using yW rv) hz fun t' k=>⟨.str _,H,I.tok k,⟨t',rfl⟩,q⟩
end
inductive n5(K:PySem.W.Frag)(H:Hp):Nat→V→V→Bool→Prop
 | flat {n x y} (fx:lV x=true) (fy:lV y=true):n5 K H n x y (Gk x y)
 | lists {n a c xs ys} {e:Nat→Bool} (h1:hV K H a xs) (h2:hV K H c ys) (hl:xs.length=ys.length) (he:∀(j:Nat) u v,xs[j]?=some u→ys[j]?=some v→n5 K H n u v (e j)):n5 K H (n+1) (.ref a) (.ref c) ((List.range xs.length).all e)
 | Le {n a c xs ys} (h1:hV K H a xs) (h2:hV K H c ys) (hl:xs.length≠ys.length):n5 K H n (.ref a) (.ref c) false
 | oH {n a c xs ys} {e:Nat→Bool} (h1:vK K H a xs) (h2:vK K H c ys) (he:∀(j:Nat) u v,xs[j]?=some u→ys[j]?=some v→n5 K H n u v (e j)):n5 K H (n+1) (.ref a) (.ref c) ((List.range (min xs.length ys.length)).all e&&xs.length ==ys.length)
 | vT {n a xs y} (h1:hV K H a xs) (fy:lV y=true):n5 K H n (.ref a) y false
 | vU {n a xs y} (h1:hV K H a xs) (fy:lV y=true):n5 K H n y (.ref a) false
 | yX {n a xs y} (h1:vK K H a xs) (fy:lV y=true):n5 K H n (.ref a) y false
 | yY {n a xs y} (h1:vK K H a xs) (fy:lV y=true):n5 K H n y (.ref a) false
 | yZ {n a c xs ys} (h1:hV K H a xs) (h2:vK K H c ys):n5 K H n (.ref a) (.ref c) false
 | y0 {n a c xs ys} (h1:vK K H a xs) (h2:hV K H c ys):n5 K H n (.ref a) (.ref c) false
theorem IQ:∀{x:V},lV x=true→Gk x x=true:=by
 intro x h
 cases x<;>simp[lV,Gk] at *
section
variable{X:Cx}{pins:List (Addr×Obj)}{σ:St}{H:Hp}{s:Shared}
theorem Inv.Mr{a c:Addr}{xs ys:List V}(I:Inv X pins σ H s)(h1:hV X.K H a xs)(h2:vK X.K H c ys):a≠c:=by
 obtain⟨hX,_,p,_⟩:=I.list h1
 obtain⟨lS,_,p2,_⟩:=I.tuple h2
 exact SeqAt.ne_of_list_tuple p.isList (show s.heap.IsTuple c lS.toArray from p2)
theorem n5.self{n:Nat}{x y:V}{b:Bool}(I:Inv X pins σ H s)(h:n5 X.K H n x y b):x=y→b=true:=by
 induction h with
 | flat fx fy=>intro e;subst e;exact IQ fx
 | lists h1 h2 hl he ih=>
   intro e
   cases e
   have:=I.o6 h1 h2
   subst this
   refine abg.mpr fun j hj=>?_
   have hj:=abI.mp hj
   exact ih j _ _ (UR hj) (UR hj) rfl
 | Le h1 h2 hl=>intro e;cases e;exact absurd (congrArg List.length (I.o6 h1 h2)) hl
 | oH h1 h2 he ih=>
   intro e
   cases e
   have:=I.G_ h1 h2
   subst this
   rw[aaX]
   refine⟨abg.mpr fun j hj=>?_,by simp⟩
   have hj:=abI.mp hj
   rw[Nat.min_self] at hj
   exact ih j _ _ (UR hj) (UR hj) rfl
 | vT h1 fy=>intro e;subst e;exact absurd (show false=true from fy) aad
 | vU h1 fy=>intro e;subst e;exact absurd (show false=true from fy) aad
 | yX h1 fy=>intro e;subst e;exact absurd (show false=true from fy) aad
 | yY h1 fy=>intro e;subst e;exact absurd (show false=true from fy) aad
 | yZ h1 h2=>intro e;cases e;exact absurd rfl (I.Mr h1 h2)
 | y0 h1 h2=>intro e;cases e;exact absurd rfl (I.Mr h2 h1)
theorem pS{y:V}{v:Value}(r:RelV y v)(f:lV y=true):v=.none∨(∃b,v=.bool b)∨(∃i t,v=.int i t)∨∃x t,v=.str x t:=by
 cases y with
 | jv=>exact .inl r
 | bl b=>exact .inr (.inl ⟨b,r⟩)
 | int i=>obtain⟨t,e⟩:=r;exact .inr (.inr (.inl ⟨i,t,e⟩))
 | str x=>obtain⟨t,e⟩:=r;exact .inr (.inr (.inr ⟨x,t,e⟩))
 | _=>exact absurd (show false=true from f) aad
theorem n6{xs:List V}{hX:List Value}(rv:Vals xs hX){j:Nat}(h:j<hX.toArray.size):∃x,xs[j]?=some x∧RelV x hX.toArray[j]:=by
 have hl:=rv.length
 have hj:j<hX.length:=by simpa using h
 have hx:j<xs.length:=by omega
 obtain⟨u,hu,ru⟩:=rv.get (UR hx)
 refine⟨xs[j],UR hx,?_⟩
 rw[UR hj] at hu
 cases hu
 simpa using ru
theorem n5.at{n:Nat}{x y:V}{b:Bool}(I:Inv X pins σ H s)(h:n5 X.K H n x y b):∀(A:Around)(u v:Value),RelV x u→RelV y v→A.units+n<cLine→SeqAt.EqAt A s u v b:=by
 induction h with
 | flat fx fy=>intro A u v ru rv _;exact IC ru rv fx fy
 | @lists n a c xs ys e h1 h2 hl he ih=>
   intro A u v ru rv hu
   cases ru;cases rv
   by_cases Rm:a=c
   · subst Rm
     have hb:=n5.self I (n5.lists h1 h2 hl he) rfl
     rw[hb]
     exact SeqAt.EqAt.same _
   · obtain⟨hX,r1,p1,_⟩:=I.list h1
     obtain⟨lS,r2,p2,_⟩:=I.list h2
     have l1:=r1.length
     have l2:=r2.length
     refine SeqAt.EqAt.of_refs Rm ?_
     have q:=SeqAt.RcAt.lists (A:=A) (e:=e) p1.isList p2.isList (by simp;omega) (by omega) fun j g1 g2=>by
       obtain⟨x,ex,rx⟩:=n6 r1 g1
       obtain⟨y,ey,ry⟩:=n6 r2 g2
       exact ih j x y ex ey A.in1 _ _ rx ry (by show A.units+1+n<cLine;omega)
     rw[aae,←l1] at q
     exact q
 | @Le n a c xs ys h1 h2 hl=>
   intro A u v ru rv hu
   cases ru;cases rv
   obtain⟨hX,r1,p1,_⟩:=I.list h1
   obtain⟨lS,r2,p2,_⟩:=I.list h2
   have l1:=r1.length
   have l2:=r2.length
   refine SeqAt.EqAt.of_refs (fun e=>?_) (SeqAt.RcAt.lists_lengths p1.isList p2.isList (by simp;omega) (by omega))
   subst e
   exact hl (congrArg List.length (I.o6 h1 h2))
 | @oH n a c xs ys e h1 h2 he ih=>
   intro A u v ru rv hu
   cases ru;cases rv
   by_cases Rm:a=c
   · subst Rm
     have hb:=n5.self I (n5.oH h1 h2 he) rfl
     rw[hb]
     exact SeqAt.EqAt.same _
   · obtain⟨hX,r1,p1,_⟩:=I.tuple h1
     obtain⟨lS,r2,p2,_⟩:=I.tuple h2
     have l1:=r1.length
     have l2:=r2.length
     refine SeqAt.EqAt.of_refs Rm ?_
     have q:=SeqAt.RcAt.tuples (A:=A) (e:=e) (show s.heap.IsTuple a hX.toArray from p1) (show s.heap.IsTuple c lS.toArray from p2) (by omega) fun j g1 g2=>by
       obtain⟨x,ex,rx⟩:=n6 r1 g1
       obtain⟨y,ey,ry⟩:=n6 r2 g2
       exact ih j x y ex ey A.in1 _ _ rx ry (by show A.units+1+n<cLine;omega)
     rw[aae,aae,←l1,←l2] at q
     exact q
 | @vT n a xs y h1 fy=>
   intro A u v ru rv hu
   cases ru
   obtain⟨hX,r1,p1,_⟩:=I.list h1
   rcases pS rv fy with rfl|⟨b,rfl⟩|⟨i,t,rfl⟩|⟨x,t,rfl⟩
   · exact .list_none p1.isList (by omega)
   · exact .list_bool b p1.isList (by omega)
   · exact .list_int i t p1.isList (by omega)
   · exact .list_str x t p1.isList (by omega)
 | @vU n a xs y h1 fy=>
   intro A u v ru rv hu
   cases rv
   obtain⟨hX,r1,p1,_⟩:=I.list h1
   rcases pS ru fy with rfl|⟨b,rfl⟩|⟨i,t,rfl⟩|⟨x,t,rfl⟩
   · exact .none_list p1.isList (by omega)
   · exact .bool_list b p1.isList (by omega)
   · exact .int_list i t p1.isList (by omega)
   · exact .str_list x t p1.isList (by omega)
 | @yX n a xs y h1 fy=>
   intro A u v ru rv hu
   cases ru
   obtain⟨hX,r1,p1,_⟩:=I.tuple h1
   have p1:s.heap.IsTuple a hX.toArray:=p1
   rcases pS rv fy with rfl|⟨b,rfl⟩|⟨i,t,rfl⟩|⟨x,t,rfl⟩
   · exact .tuple_none p1 (by omega)
   · exact .tuple_bool b p1 (by omega)
   · exact .tuple_int i t p1 (by omega)
   · exact .tuple_str x t p1 (by omega)
 | @yY n a xs y h1 fy=>
   intro A u v ru rv hu
   cases rv
   obtain⟨hX,r1,p1,_⟩:=I.tuple h1
   have p1:s.heap.IsTuple a hX.toArray:=p1
   rcases pS ru fy with rfl|⟨b,rfl⟩|⟨i,t,rfl⟩|⟨x,t,rfl⟩
   · exact .none_tuple p1 (by omega)
   · exact .bool_tuple b p1 (by omega)
   · exact .int_tuple i t p1 (by omega)
   · exact .str_tuple x t p1 (by omega)
 | @yZ n a c xs ys h1 h2=>
   intro A u v ru rv hu
   cases ru;cases rv
   obtain⟨hX,r1,p1,_⟩:=I.list h1
   obtain⟨lS,r2,p2,_⟩:=I.tuple h2
   exact .list_tuple p1.isList (show s.heap.IsTuple c lS.toArray from p2) (by omega)
 | @y0 n a c xs ys h1 h2=>
   intro A u v ru rv hu
   cases ru;cases rv
   obtain⟨hX,r1,p1,_⟩:=I.tuple h1
   obtain⟨lS,r2,p2,_⟩:=I.list h2
   exact .tuple_list (show s.heap.IsTuple a hX.toArray from p1) p2.isList (by omega)
def Qq(x y:V):Prop:=∃a c,x=.ref a∧y=.ref c
theorem n5.rc{n:Nat}{x y:V}{b:Bool}{A:Around}{u v:Value}(I:Inv X pins σ H s)(h:n5 X.K H n x y b)(sq:Qq x y)(ru:RelV x u)(rv:RelV y v)(hu:A.units+n+1<cLine):SeqAt.RcAt A s u v b∧SeqAt.RcNeAt A s u v (!b):=by
 obtain⟨a0,c0,rfl,rfl⟩:=sq
 cases ru;cases rv
 cases h with
 | flat fx fy=>exact absurd (show false=true from fx) aad
 | @lists n a c xs ys e h1 h2 hl he=>
   obtain⟨hX,r1,p1,_⟩:=I.list h1
   obtain⟨lS,r2,p2,_⟩:=I.list h2
   have l1:=r1.length
   have l2:=r2.length
   have el:∀j (g1:j<hX.toArray.size) (g2:j<lS.toArray.size),SeqAt.EqAt A.in1 s hX.toArray[j] lS.toArray[j] (e j):=fun j g1 g2=>by
     obtain⟨x,ex,rx⟩:=n6 r1 g1
     obtain⟨y,ey,ry⟩:=n6 r2 g2
     exact(he j x y ex ey).at I A.in1 _ _ rx ry (by show A.units+1+n<cLine;omega)
   have q:=SeqAt.RcAt.lists (A:=A) (e:=e) p1.isList p2.isList (by simp;omega) (by omega) el
   have q':=SeqAt.RcNeAt.lists (A:=A) (e:=e) p1.isList p2.isList (by simp;omega) (by omega) el
   rw[aae,←l1] at q q'
   exact⟨q,q'⟩
 | @Le n a c xs ys h1 h2 hl=>
   obtain⟨hX,r1,p1,_⟩:=I.list h1
   obtain⟨lS,r2,p2,_⟩:=I.list h2
   have l1:=r1.length
   have l2:=r2.length
   exact⟨SeqAt.RcAt.lists_lengths p1.isList p2.isList (by simp;omega) (by omega),SeqAt.RcNeAt.lists_lengths p1.isList p2.isList (by simp;omega) (by omega)⟩
 | @oH n a c xs ys e h1 h2 he=>
   obtain⟨hX,r1,p1,_⟩:=I.tuple h1
   obtain⟨lS,r2,p2,_⟩:=I.tuple h2
   have l1:=r1.length
   have l2:=r2.length
   have el:∀j (g1:j<hX.toArray.size) (g2:j<lS.toArray.size),SeqAt.EqAt A.in1 s hX.toArray[j] lS.toArray[j] (e j):=fun j g1 g2=>by
     obtain⟨x,ex,rx⟩:=n6 r1 g1
     obtain⟨y,ey,ry⟩:=n6 r2 g2
     exact(he j x y ex ey).at I A.in1 _ _ rx ry (by show A.units+1+n<cLine;omega)
   have q:=SeqAt.RcAt.tuples (A:=A) (e:=e) (show s.heap.IsTuple a0 hX.toArray from p1) (show s.heap.IsTuple c0 lS.toArray from p2) (by omega) el
   have q':=SeqAt.RcNeAt.tuples (A:=A) (e:=e) (show s.heap.IsTuple a0 hX.toArray from p1) (show s.heap.IsTuple c0 lS.toArray from p2) (by omega) el
   rw[aae,aae,←l1,←l2] at q q'
   exact⟨q,q'⟩
 | vT h1 fy=>exact absurd (show false=true from fy) aad
 | vU h1 fy=>exact absurd (show false=true from fy) aad
 | yX h1 fy=>exact absurd (show false=true from fy) aad
 | yY h1 fy=>exact absurd (show false=true from fy) aad
 | @yZ n a c xs ys h1 h2=>
   obtain⟨hX,r1,p1,_⟩:=I.list h1
   obtain⟨lS,r2,p2,_⟩:=I.tuple h2
   exact⟨.list_tuple p1.isList (show s.heap.IsTuple c0 lS.toArray from p2) (by omega),.list_tuple p1.isList (show s.heap.IsTuple c0 lS.toArray from p2) (by omega)⟩
 | @y0 n a c xs ys h1 h2=>
   obtain⟨hX,r1,p1,_⟩:=I.tuple h1
   obtain⟨lS,r2,p2,_⟩:=I.list h2
   exact⟨.tuple_list (show s.heap.IsTuple a0 hX.toArray from p1) p2.isList (by omega),.tuple_list (show s.heap.IsTuple a0 hX.toArray from p1) p2.isList (by omega)⟩
end
section
variable{X:Cx}
def UO(K:PySem.W.Frag)(n:Nat):R2:=fun x y H Q=>∃b,Qq x y∧n5 K H n x y b∧Q (.bl b) H
theorem Fe(n:Nat)(hu:X.A.units+n+1<cLine):xX X (compareOp .Eq) (UO X.K n):=by
 intro pins s σ H x y u v Q I rx ry h
 obtain⟨b,sq,e,q⟩:=h
 exact(e.rc I sq rx ry hu).1 X.prog X.w X.xe _ ⟨.bl b,H,I,rfl,q⟩
end
theorem n5.Gn{K:PySem.W.Frag}{H:Hp}{n:Nat}{β:Type}[DecidableEq β]{F:β→V→Prop}(hF:∀p q u v,F p u→F q v→n5 K H n u v (decide (p=q))){a c:Addr}{xs ys:List V}{ps qs:List β}
   (h1:hV K H a xs) (h2:hV K H c ys) (r1:Paired F ps xs) (r2:Paired F qs ys):n5 K H (n+1) (.ref a) (.ref c) (decide (ps=qs)):=by
 have l1:=r1.length
 have l2:=r2.length
 have Rn:∀{ps:List β} {xs:List V},Paired F ps xs→∀(j:Nat) u,xs[j]?=some u→∃p,ps[j]?=some p∧F p u:=by
   intro ps xs r
   induction r with
   | nil=>intro j u h;simp at h
   | cons f t ih=>
     intro j u h
     cases j with
     | zero=>simp at h;subst h;exact⟨_,rfl,f⟩
     | succ j=>simpa using ih j u (by simpa using h)
 by_cases hl:xs.length=ys.length
 · have e:n5 K H (n+1) (.ref a) (.ref c) ((List.range xs.length).all fun j=>decide (ps[j]?=qs[j]?)):=.lists h1 h2 hl fun j u v hu hv=>by
     obtain⟨p,ep,fp⟩:=Rn r1 j u hu
     obtain⟨q,eq,fq⟩:=Rn r2 j v hv
     have:=hF p q u v fp fq
     rw[ep,eq]
     have e:decide (some p=some q)=decide (p=q):=by simp
     rw[e]
     exact this
   have e2:((List.range xs.length).all fun j=>decide (ps[j]?=qs[j]?))=decide (ps=qs):=by
     by_cases h:ps=qs
     · subst h;simp
     · rw[XX h,abc]
       intro z
       refine h (List.ext_getElem? fun j=>?_)
       by_cases hj:j<xs.length
       · simpa using abg.mp z j (abI.mpr hj)
       · rw[abd.mpr (by omega),abd.mpr (by omega)]
   rw[←e2]
   exact e
 · rw[XX fun z=>hl (by rw[←l1,←l2,z])]
   exact .Le h1 h2 hl
theorem n5.IS{K:PySem.W.Frag}{H:Hp}{n:Nat}(p q:Str):n5 K H n (.str p) (.str q) (decide (p=q)):=by
 have:Gk (.str p) (.str q)=decide (p=q):=(Bool.beq_eq_decide_eq p q)
 rw[←this]
 exact .flat rfl rfl
theorem n5.Nw{K:PySem.W.Frag}{H:Hp}{n:Nat}(p q:Int):n5 K H n (.int p) (.int q) (decide (p=q)):=by
 have:Gk (.int p) (.int q)=decide (p=q):=(Bool.beq_eq_decide_eq p q)
 rw[←this]
 exact .flat rfl rfl
structure Pe(P:Program)(w:World)(outer:List Env)(H H':Hp)(s s':Shared)(e C:Addr):Prop where
 os:s'.os=s.os
 bare:AllBare s'.gens
 un:Un (qO outer) [] H H' s.heap s'.heap
 iG:pN P w H' s'.heap
 fl:∃B t,Heap.FlyingW B outer e (.ref C) (.ref t) s'.heap∧∀b o,s'.heap.get? b=some o→b∉qO outer→((∃u,H' b=some u)∨∃o',s.heap.get? b=some o')→B.get? b=some o
 new:s.heap.get? e=none
 free:H' e=none
def sH(P:Program)(w:World):E4:=fun outer H s E ev s'=>∃e C H',ev=.ref e∧Pe P w outer H H' s s' e C∧E (.ref C) none H'
theorem i9.ex{P:Program}{w:World}{H:Hp}{h:Heap}{a:Addr}{o:HO}(x:i9 P w H h a o):∃ob,h.get? a=some ob:=by
 cases o with
 | lst xs=>obtain⟨_,_,_,_,e⟩:=x;exact⟨_,e⟩
 | tup xs=>obtain⟨_,_,_,o,e,_⟩:=x;exact⟨_,e⟩
 | dK kvs=>obtain⟨_,_,_,_,o,_,_,e,_⟩:=x;exact⟨_,e⟩
 | dT kvs=>obtain⟨_,_,_,_,o,_,_,e,_⟩:=x;exact⟨_,e⟩
 | set S n=>obtain⟨o,_,_,_,e,_⟩:=x;exact⟨_,e⟩
 | ins C dx fs=>obtain⟨_,_,_,e,_⟩:=x;exact⟨_,e⟩
 | own y=>obtain⟨_,e⟩:=x;exact⟨_,e⟩
 | xd fs=>obtain⟨_,⟨_,_,_,e,_⟩,_⟩:=x;exact⟨_,e⟩
 | SU lo hi=>obtain⟨_,_,_,e⟩:=x;exact⟨_,e⟩
 | nQ ob u=>obtain⟨e,_⟩:=x;exact⟨_,e⟩
 | Kz ps=>exact⟨_,(show h.get? a=some _ from x)⟩
 | met f y=>exact⟨_,(show h.get? a=some _ from x)⟩
 | ext φ=>obtain⟨_,⟨_,e⟩,_⟩:=x;exact⟨_,e⟩
section
variable{X:Cx}{pins:List (Addr×Obj)}{σ:St}{H H':Hp}{s s':Shared}{e C:Addr}{M:Model}{E:Value→Shared→Prop}
structure Bd(X:Cx):Prop where
 stack:X.stack=X.env::X.outer
 frame:X.env.frame=some X.env.locals
 ex:X.ex=[]
theorem Inv.KR(I:Inv X pins σ H s){b:Addr}{o:Obj}(h:X.s₀.heap.get? b=some o)(nf:b∉X.fs):b∉qO X.stack:=fun hb=>by
 rcases XU.mp (I.vM b hb) with z|z
 · rw[z] at h
   exact absurd (aaw (Heap.lt_size h) I.ok.above) (aa8 _)
 · exact nf z
theorem IT(I:Inv X pins σ H s)(bd:Bd X)(un:Un (qO X.stack) [] H H' s.heap s'.heap)(hos:s'.os=s.os)(Ro:AllBare s'.gens)(iG:pN X.prog X.w H' s'.heap){B OJ:Heap}{t:Addr}
   (hB:∀b o,s'.heap.get? b=some o→b∉qO X.stack→((∃u,H' b=some u)∨∃o',s.heap.get? b=some o')→B.get? b=some o)
   (hF:s'.heap.FunFrames B X.stack) (nc:Heap.FlyingW B X.outer e (.ref C) (.ref t) OJ) (up:s'.heap.UpToSlots OJ) (new:s.heap.get? e=none) (Vr:H' e=none) :
   Pe X.prog X.w X.outer X.H₀ H' X.s₀ {s' with heap:=OJ} e C:=by
 have hex:=bd.ex
 have Rp:∀b∈qO X.stack,H' b=none:=fun b hb=>by
   obtain⟨_,o,ho,_⟩:=I.stack.mem hb
   exact un.free b o ho (I.yp b hb) (by simp)
 have GU:∀b u,H' b=some u→b∉qO X.stack:=fun b u hu hb=>by rw[Rp b hb] at hu;cases hu
 have vI:∀b o u,s'.heap.get? b=some o→H' b=some u→OJ.get? b=some o:=fun b o u ho hu=>
   nc.1 b o (hB b o ho (GU b u hu) (.inl ⟨u,hu⟩))
 have pO:∀b,b∉X.ex:=fun b z=>by rw[hex] at z;cases z
 have outS:∀b,b∈qO X.outer→b∈qO X.stack:=fun b hb=>by
   rw[bd.stack];unfold qO;rw[aba,bd.frame];exact aag _ hb
 refine⟨hos.trans I.os,Ro,⟨fun b o q n hb hx=>?_,fun b o q n hb hx=>?_,fun b o q n hx=>?_,fun b o q hx=>?_,fun b xs q=>un.oH b xs (I.base.oH b xs q),fun b o u q=>un.qQ b o u (I.base.qQ b o u q),fun b ps q=>?_⟩,fun a u ha=>?_,⟨B,t,nc,fun b o hb nb hc=>?_⟩,?_,Vr⟩
 · have q1:=I.base.keep b o q n hb (pO b)
   have nf:=I.KR q hb
   exact nc.1 b o (hB b o (un.keep b o q1 (I.base.free b o q n (pO b)) nf (by simp)) nf (.inr ⟨o,q1⟩))
 · obtain⟨sl,q1⟩:=I.base.slot b o q n hb (pO b)
   obtain⟨Yl,q2⟩:=un.any q1 (I.base.free b o q n (pO b)) (by simp)
   obtain⟨_,o',nX,hd⟩:=I.ok.qP.mem hb
   rw[q] at nX;cases nX
   obtain⟨Vs,q3⟩:=up b _ q2 hd
   exact⟨Vs,q3⟩
 · obtain⟨o',q1⟩:=I.base.there b o q (pO b)
   exact un.free b o' q1 (I.base.free b o q n (pO b)) (by simp)
 · obtain⟨o1,q1⟩:=I.base.there b o q (pO b)
   obtain⟨o2,q2⟩:=un.there b o1 q1 (by simp)
   by_cases hb:b∈qO X.stack
   · obtain⟨_,o',nX,hd⟩:=hF.mem hb
     rw[q2] at nX;cases nX
     obtain⟨Vs,q3⟩:=up b _ q2 hd
     exact⟨_,q3⟩
   · exact⟨o2,nc.1 b o2 (hB b o2 q2 hb (.inr ⟨o1,q1⟩))⟩
 · obtain⟨m1,e1⟩:=I.base.tP b ps q
   obtain⟨m2,e2⟩:=un.tP b _ e1
   exact⟨m1++m2,by rw[e2,Array.append_assoc]⟩
 · refine(iG a u ha).vL (fun b v hb q=>?_) (fun _ z=>z) fun _ _ z=>z
   rcases hb with z|z
   · rw[z] at q ⊢;exact vI a v u q ha
   · exact vI b v _ q z
 · have all:∀o1,s'.heap.get? b=some o1→b∉qO X.stack→((∃u,H' b=some u)∨∃o',s.heap.get? b=some o')→B.get? b=some o:=fun o1 q1 nf c=>by
     have z:=hB b o1 q1 nf c
     have z2:=nc.1 b o1 z
     have hb:OJ.get? b=some o:=hb
     rw[hb] at z2;cases z2
     exact z
   rcases hc with⟨u,hu⟩|⟨o',nX⟩
   · obtain⟨o1,q1⟩:=(iG b u hu).ex
     exact all o1 q1 (GU b u hu) (.inl ⟨u,hu⟩)
   · obtain⟨o1,q1⟩:=I.base.there b o' nX (pO b)
     obtain⟨o2,q2⟩:=un.there b o1 q1 (by simp)
     exact all o2 q2 (I.KR nX nb) (.inr ⟨o1,q1⟩)
 · cases q:X.s₀.heap.get? e with
   | none=>rfl
   | some o=>
     obtain⟨o1,q1⟩:=I.base.there e o q (pO e)
     rw[new] at q1;cases q1
theorem IU(I:Inv X pins σ H s)(bd:Bd X)(F:Pe X.prog X.w X.stack H H' s s' e C) :
   wpAny M X.A (leaving X.env (.ref e)) (fun _ HY=>Pe X.prog X.w X.outer X.H₀ H' X.s₀ HY e C) E s':=by
 obtain⟨B,t,fl,hB⟩:=F.fl
 have Rq:=fl
 rw[bd.stack] at Rq
 refine wpAny_leaves_onW (by rw[I.ok.frames,bd.stack]) bd.frame Rq fun OJ nc up=>?_
 exact IT I bd F.un F.os F.bare F.iG hB fl.2.2.1 nc up F.new F.free
theorem Ff{vs:List Value}{h':Heap}(I:Inv X pins σ H s)(bd:Bd X)(hx:Heap.MadeExcOf s.heap h' e (.ref C) vs) :
   wpAny M X.A (leaving X.env (.ref e)) (fun _ HY=>Pe X.prog X.w X.outer X.H₀ H X.s₀ HY e C) E {s with heap:=h'}:=by
 have Kh:∀env∈X.stack,∀b,env.frame=some b→b∈qO X.stack:=fun env he b hb=>aby.mpr ⟨env,he,hb⟩
 have hF:=PySem.W.funFrames_hide I.stack Kh
 have Vr:H e=none:=by
   cases q:H e with
   | none=>rfl
   | some u=>
     obtain⟨o,ho⟩:=(I.iG e u q).ex
     rw[hx.new] at ho;cases ho
 have un:Un (qO X.stack) [] H H s.heap h':=Un.kept hx.keeps
 have hB:∀b o,h'.get? b=some o→b∉qO X.stack→((∃u,H b=some u)∨∃o',s.heap.get? b=some o')→(PySem.W.hideAll s.heap (qO X.stack)).get? b=some o:=fun b o hb nf c=>by
   have:∃o',s.heap.get? b=some o':=by
     rcases c with⟨u,hu⟩|c
     · exact(I.iG b u hu).ex
     · exact c
   obtain⟨o',nX⟩:=this
   have z:=hx.keeps b o' nX
   rw[hb] at z;cases z
   exact PySem.W.hideAll_get _ nX nf
 have hF2:h'.FunFrames (PySem.W.hideAll s.heap (qO X.stack)) X.stack:=hF.of_keeps fun b o ho _=>⟨o,hx.keeps b o ho,rfl⟩
 refine wpAny_leaves_madeW (base:=PySem.W.hideAll s.heap (qO X.stack)) (h:=s.heap) (by rw[I.ok.frames,bd.stack]) bd.frame (fun b o q=>PySem.W.of_hideAll _ q) (by rw[←bd.stack];exact hF) hx fun OJ t nc tup nt up=>?_
 exact IT (s':={s with heap:=h'}) I bd un rfl I.bare (I.iG.kept hx.keeps) hB hF2 nc up hx.new Vr
structure Bx(X:Cx)(E:XK):Prop where
 bd:Bd X
 calm:X.calm=true
 xe:∀ev s',wpAny (model X.prog X.w) X.A (leaving X.env ev) (fun _ HY=>sH X.prog X.w X.outer X.H₀ X.s₀ E ev HY) (fun e' HY=>sH X.prog X.w X.outer X.H₀ X.s₀ E e' HY) s'→X.xe ev s'
theorem bx{P:Program}{w:World}{K:PySem.W.Frag}{mg:Str→Option Value}{base:Heap}{N:List Str}{qual:Str}{scope:Scope}{f:Addr}{cd:Value}{A:Around}{outer:List Env}{s:Shared}{H:Hp}{E:XK} :
   Bx (vO (sH P w) P w K mg base N qual scope f cd A outer s H E) E:=⟨⟨rfl,rfl,rfl⟩,rfl,fun _ _ h=>h⟩
theorem Ms{EX:XK}(b:Bx X EX):Passes (sH X.prog X.w) X EX:=fun pins σ H s ev s' I ⟨e,C,H',he,F,q⟩=>by
 subst he
 exact b.xe _ _ (iY (IU I b.bd F) fun _ HY F'=>⟨e,C,H',rfl,F',q⟩)
theorem IV{P:Program}{w:World}{K:PySem.W.Frag}{mg:Str→Option Value}{base:Heap}{N:List Str}{qual:Str}{scope:Scope}{f:Addr}{cd:Value}{A:Around}{outer:List Env}{s:Shared}{H:Hp}{E:XK} :
   PassesOwn (model P w) (vO (sH P w) P w K mg base N qual scope f cd A outer s H E).A (vO (sH P w) P w K mg base N qual scope f cd A outer s H E).env (vO (sH P w) P w K mg base N qual scope f cd A outer s H E).xe:=PassesOwn.leaving
structure Exc(K:PySem.W.Frag)(mg:Str→Option Value)(x:Str)(C:Addr):Prop where
 m:mg x=some (.ref C)
 q:PySem.W.excIn K C [.type "ValueError",.type "Exception",.type "BaseException",.type "object"] "ValueError.__new__"=true
def Nx(C:Addr)(EX:XK)(ta:TE):TS:=fun _ σ H=>ta σ H fun _ H1=>EX (.ref C) none H1
theorem BZ{K:PySem.W.Frag}{h:Heap}{C:Addr}{Ym:List Value}{newId:String}(X:K.In h)(q:PySem.W.excIn K C Ym newId=true):∃bm N nm q bs hdct sn sub ab col dd k0 k1 k2 k3 k5 mN,h.get? C=some (excClassObj nm q C N bs bm hdct sn sub ab col dd k0 k1 k2 k3 k5 newId)∧h.Ns N mN∧mN "__init__"=none∧OwnTail h Ym bm:=by
 unfold PySem.W.excIn at q
 split at q
 · rename_i dd cd sl ho
   split at q
   · rename_i C' bm k0 k1 k2 k3 n k5 hm hs
     simp only [aaX,beq_iff_eq,Bool.not_eq_true'] at q
     obtain⟨⟨⟨⟨⟨rfl,rfl⟩,Rr⟩,ht⟩,iG⟩,Rt⟩:=q
     obtain⟨nm,bs,mro,ns,qn,hd,sn,sub,ab,col,del⟩:=cd
     dsimp only at hm Rr iG Rt
     subst hm Rr
     have Te:sl=#[k0,k1,k2,k3,some (.builtin n),k5]:=by
       obtain⟨l⟩:=sl
       simp only at hs
       rw[hs]
     subst Te
     exact⟨bm,ns,nm,qn,bs,hd,sn,sub,ab,col,dd,k0,k1,k2,k3,k5,_,X _ _ ho,.of_isNs (PySem.W.isNs_of_in X iG),PySem.W.nsMap_none_of_in X iG Rt,PySem.W.tail_of_in X ht⟩
   · cases q
 · cases q
theorem j9{EX:XK}{x:Str}{a:Expr}{ta:TE}{np kP pos:Pos}(b:Bx X EX)(O:Exc X.K X.mg x C)(hg:Gl X x)(ha:PE X a ta)
   (AW:(x ==("__debug__":Str))=false:=by decide) (hs:starEach [a] X.env=[(false,eval a X.env)]:=by rfl):PS X (.Raise (some (.Call (.Name x np) [a] [] kP)) none pos) (Nx C EX ta):=by
 intro pins s σ H D I h
 obtain⟨bm,N,nm,q,bs,hdct,sn,sub,ab,col,dd,k0,k1,k2,k3,k5,mN,hC,hN,Rt,T⟩:=BZ I.ok.mod.KP O.q
 refine wpAny_Raise_call_subT (C:=C) (nm:=nm) (q:=q) (N:=N) (bs:=bs) (bm:=bm) (hdct:=hdct) (sn:=sn) (sub:=sub) (ab:=ab) (col:=col) (dd:=dd) (k0:=k0) (k1:=k1) (k2:=k2) (k3:=k3) (k5:=k5)
   PySem.F.excBase_ValueError (mN:=mN) (T.hasType (by decide)) (I.ok.hd b.calm) (by rw[hs];rfl) Rt (nY I hg O.m ⟨rfl,?_⟩ AW)
 rw[hs]
 refine Calls.evalArgs_plain ?_
 refine Calls.spliced_cons (iY (ha pins s σ H _ I h) fun u s1 ⟨y,H1,I1,r1,q1⟩=>Calls.spliced_nil ?_)
 have hk:=I1.bk
 refine⟨rfl,by show 1≤sizeLine;decide,hk _ _ hC,hN.keeps hk,T.keeps hk,fun h' e hm=>?_⟩
 exact b.xe _ _ (iY (Ff I1 b.bd hm) fun _ HY F=>⟨e,C,H1,rfl,F,q1⟩)
end
section
variable{P:Program}{w:World}{K:PySem.W.Frag}{mg:Str→Option Value}{base:Heap}
theorem Ax.AD{x qual:Str}{st:Stmt}{f:Addr}{fd:FuncData}{N ps:List Str}{k:Nat}{sp:Sp}(F:Ax K x qual st f fd)(S:gm N ps (fU st))(len:∀vs H Q E,sp vs H Q E→vs.length=ps.length)
   (z8:∀(jd:Value)(A:Around)(outer:List Env)(s:Shared)(H:Hp)(vs:List V)(Q:VK)(E:XK),ku k (A.deeper (envOfC qual (fU st) s.heap.objs.size f jd))→sp vs H Q E→
     ∃t,Dg (vO (sH P w) P w K mg base N qual (fU st) f jd A outer s H E) (mf st) t∧t {nx:=fun _ H'=>Q .jv H',rt:=Q} (start N vs) H):ie P w K mg base (sH P w) (k+1) f fd ps sp:=by
 obtain⟨oc,od,kV,doc,pm,an,jd,ct,HZ,rfl,lk,Ay⟩:=F.ex
 exact Mp lk Ay S len fun A outer s H vs Q E hr H_=>z8 jd A outer s H vs Q E hr H_
theorem ie.IW{k:Nat}{f:Addr}{fd:FuncData}{ps:List Str}{sp:Sp}(F:ie P w K mg base (sH P w) k f fd ps sp):ie P w K mg base lZ k f fd ps (fun vs H Q _=>sp vs H Q E0):=
 ⟨fun vs H Q E h=>F.len vs H Q E0 h,fun A outer s H args us vs Q E hr e0 hb hv hs=>codeAny_mono (F.run A outer s H args us vs Q E0 hr e0 hb hv hs) fun r s' h=>by
   cases r with
   | error e=>obtain⟨_,_,_,_,_,z⟩:=h;exact z
   | ok fl=>cases fl<;>exact h⟩
end
section
variable{X:Cx}
def PF(X:Cx)(k:Nat)(es:List Expr)(t:TE):Prop:=
 ∀(acc:Str)(pins:List (Addr×Obj))(s:Shared)(σ:St)(H:Hp)(Q:VK),acc.length≤k*1048576→Inv X pins σ H s→t σ H Q→wpAny (model X.prog X.w) X.A (joinParts acc (evalEach es X.env)) (EP X pins σ Q) X.xe s
def tFn:TE:=fun _ H Q=>∀x,Q (.str x) H
def tFc(te t:TE):TE:=fun σ H Q=>te σ H fun v H1=>∃y,v=.str y∧y.length≤1048576∧t σ H1 Q
theorem nj{k:Nat}(hk:k≤8:=by decide):PF X k [] tFn:=fun acc pins s σ H Q hl I h=>
 joinParts_nil (hsz:=by have:sizeLine=16777216:=rfl;omega) ⟨.str acc,H,I.tok _,⟨_,rfl⟩,h acc⟩
theorem iu{k:Nat}{e:Expr}{es:List Expr}{te t:TE}(he:PE X e te)(hr:PF X (k+1) es t)(hk:k≤7:=by decide)(hs:evalEach (e::es) X.env=eval e X.env::evalEach es X.env:=by rfl):PF X k (e::es) (tFc te t):=by
 intro acc pins s σ H Q hl I h
 rw[hs]
 refine joinParts_cons (iY (he pins s σ H _ I h) fun u s1 ⟨v,H1,I1,r1,y,ev,hy,q⟩=>?_)
 subst ev
 obtain⟨t',rfl⟩:=r1
 have e1:(acc++y).length=acc.length+y.length:=strLen_append ..
 exact⟨by rw[e1];have:sizeLine=16777216:=rfl;omega,hr (acc++y) pins s1 σ H1 Q (by rw[e1];omega) I1 q⟩
theorem lD{e1 e2:Expr}{es:List Expr}{t:TE}{pos:Pos}(h:PF X 0 (e1::e2::es) t):PE X (.JoinedStr (e1::e2::es) pos) t:=fun pins s σ H Q I hq=>by
 rw[arm_eval_JoinedStr]
 exact h Str.empty pins s σ H Q (by decide) I hq
def tFr(te:TE):TE:=fun σ H Q=>te σ H fun v H1=>∃x,v=.str x∧(reprText x).length≤1048576∧Q (.str (reprText x)) H1
theorem mE{e:Expr}{te:TE}{pos:Pos}(he:PE X e te):PE X (.FormattedValue e 114 none pos) (tFr te):=by
 intro pins s σ H Q I h
 refine wpAny_FormattedValue_repr (iY (he pins s σ H _ I h) fun u s1 ⟨v,H1,I1,r1,x,ev,hy,q⟩=>?_)
 subst ev
 obtain⟨t',rfl⟩:=r1
 have hz:(reprText x).length≤sizeLine:=aac hy (by decide)
 refine wpAny_pyReprObj_str (hsz:=hz) ?_
 exact formatField_str (fun Yk tk=>⟨.str (reprText x),H1,I1.tok _,⟨_,rfl⟩,q⟩) hz
end
section
variable{X:Cx}{pins:List (Addr×Obj)}{σ:St}{H:Hp}{s:Shared}{tg:Expr}
def AE(X:Cx)(d:Addr):Prop:=∀o u,X.H₀ d≠some (.nQ o u)
theorem IX{u:HO}(mu:Mg (some u)):(∀xs,u≠.tup xs)∧(∀o v,u≠.nQ o v)∧(∀ps,u≠.Kz ps)∧∀x,u≠.own x:=by
 cases u<;>first|exact False.elim mu|exact⟨(fun _ z=>nomatch z),(fun _ _ z=>nomatch z),(fun _ z=>nomatch z),(fun _ z=>nomatch z)⟩
theorem Inv.Ny{d:Addr}{u:HO}(I:Inv X pins σ H s)(hd:H d=some u)(mu:Mg (some u)):AE X d:=fun o v z=>by
 have:=I.base.qQ d o v z
 rw[hd] at this
 exact(IX mu).2.1 o v (aat this)
theorem Inv.IY{d:Addr}{u v:HO}(I:Inv X pins σ H s)(hd:H d=some u)(nt:∀xs,u≠.tup xs)(nb:∀ps,u≠.Kz ps)(no:∀x,u≠.own x)(nf:AE X d)(new:i9 X.prog X.w (upd H d v) s.heap d v):Inv X pins σ (upd H d v) s:=by
 have ne:∀b,H b=none→b≠d:=fun b e z=>by rw[z,hd] at e;cases e
 refine⟨I.ok,I.os,I.bare,⟨I.base.keep,I.base.slot,fun b o q n hx=>by rw[de (ne b (I.base.free b o q n hx))];exact I.base.free b o q n hx,I.base.there,fun b xs q=>?_,fun b o w q=>?_,fun b ps q=>?_⟩,I.loc,I.cell,by rw[de (ne _ I.free)];exact I.free,fun x c e=>by rw[de (ne _ (I.k_ x c e))];exact I.k_ x c e,fun p hp=>?_,fun b o e=>?_,I.len⟩
 · have z:=I.base.oH b xs q
   have:b≠d:=fun y=>by rw[y,hd] at z;exact nt xs (aat z)
   rw[de this];exact z
 · have z:=I.base.qQ b o w q
   have:b≠d:=fun y=>by rw[y] at q;exact nf o w q
   rw[de this];exact z
 · obtain⟨m,z⟩:=I.base.tP b ps q
   have:b≠d:=fun y=>by rw[y,hd] at z;exact nb _ (aat z)
   exact⟨m,by rw[de this];exact z⟩
 · obtain⟨e1,e2,e3⟩:=I.pin p hp
   exact⟨e1,by rw[de (ne _ e2)];exact e2,e3⟩
 · by_cases hb:b=d
   · subst hb;rw[b_] at e;cases e;exact new
   · rw[de hb] at e
     refine(I.iG b o e).vL (fun _ _ _ q=>q) (fun c q=>?_) fun c xs q=>?_
     · have:c≠d:=fun y=>by rw[y,hd] at q;exact no _ (aat q)
       rw[de this];exact q
     · have:c≠d:=fun y=>by rw[y,hd] at q;exact nt _ (aat q)
       rw[de this];exact q
theorem Inv.frozen{d:Addr}{u:HO}(I:Inv X pins σ H s)(hd:H d=some u)(mu:Mg (some u)):∃o,s.heap.get? d=some o∧Inv X pins σ (upd H d (.nQ o u)) s:=by
 obtain⟨o,ho⟩:=(I.iG d u hd).ex
 obtain⟨m1,m2,m3,m4⟩:=IX mu
 refine⟨o,ho,I.IY hd m1 m3 m4 (I.Ny hd mu) ⟨ho,?_⟩⟩
 refine(I.iG d u hd).vL (fun _ _ _ q=>q) (fun c q=>?_) fun c xs q=>?_
 · have:c≠d:=fun y=>by rw[y,hd] at q;exact m4 _ (aat q)
   rw[de this];exact q
 · have:c≠d:=fun y=>by rw[y,hd] at q;exact m1 _ (aat q)
   rw[de this];exact q
theorem Inv.y4{d:Addr}{o:Obj}{u:HO}(I:Inv X pins σ H s)(hd:H d=some (.nQ o u))(nf:AE X d):Inv X pins σ (upd H d u) s:=by
 refine I.IY hd (fun _ z=>by cases z) (fun _ z=>by cases z) (fun _ z=>by cases z) nf ?_
 obtain⟨_,q⟩:=(show i9 X.prog X.w H s.heap d (.nQ o u) from I.iG d _ hd)
 refine q.vL (fun _ _ _ q=>q) (fun c q=>?_) fun c xs q=>?_
 · have:c≠d:=fun y=>by rw[y,hd] at q;cases q
   rw[de this];exact q
 · have:c≠d:=fun y=>by rw[y,hd] at q;cases q
   rw[de this];exact q
def Qr(X:Cx)(t:TE):TE:=fun σ H Q=>t σ H fun v H2=>∃d o u,H2 d=some (.nQ o u)∧AE X d∧Q v (upd H2 d u)
theorem Gp{e:Expr}{t:TE}(h:PE X e t):PE X e (Qr X t):=fun pins s σ H Q I hq=>
 iY (h pins s σ H _ I hq) fun v s' ⟨x,H',I',r,d,o,u,hd,nf,q⟩=>⟨x,_,I'.y4 hd nf,r,q⟩
def Ends.UQ(X:Cx)(D:Ends):Ends where
 nx:=fun σ H2=>∃d o u,H2 d=some (.nQ o u)∧AE X d∧D.nx σ (upd H2 d u)
 rt:=fun v H2=>∃d o u,H2 d=some (.nQ o u)∧AE X d∧D.rt v (upd H2 d u)
 bk:=fun σ H2=>∃d o u,H2 d=some (.nQ o u)∧AE X d∧D.bk σ (upd H2 d u)
 ct:=fun σ H2=>∃d o u,H2 d=some (.nQ o u)∧AE X d∧D.ct σ (upd H2 d u)
theorem yt{st:Stmt}{t:TS}(h:PS X st t):PS X st (fun D σ H=>t (D.UQ X) σ H):=fun pins s σ H D I hq=>iY (h pins s σ H _ I hq) fun f s' q=>by
 cases f with
 | next=>obtain⟨σ',H',I',d,o,u,hd,nf,q⟩:=q;exact⟨σ',_,I'.y4 hd nf,q⟩
 | brk=>obtain⟨σ',H',I',d,o,u,hd,nf,q⟩:=q;exact⟨σ',_,I'.y4 hd nf,q⟩
 | cont=>obtain⟨σ',H',I',d,o,u,hd,nf,q⟩:=q;exact⟨σ',_,I'.y4 hd nf,q⟩
 | ret v=>obtain⟨x,σ',H',I',r,d,o,u,hd,nf,q⟩:=q;exact⟨x,σ',_,I'.y4 hd nf,r,q⟩
theorem B0{H:Hp}{d p:Addr}{u f o:HO}(hd:H d=some u)(hp:p≠d):upd (upd (upd H d f) p o) d u=upd H p o:=by
 funext b
 by_cases h1:b=d
 · subst h1;rw[b_,de (Ne.symm hp),hd]
 · rw[de h1]
   by_cases h2:b=p
   · subst h2;rw[b_,b_]
   · rw[de h2,de h2,de h1]
theorem Bi{H:Hp}{d:Addr}{u f:HO}(hd:H d=some u):upd (upd H d f) d u=H:=by
 rw[KL]
 funext b
 by_cases h1:b=d
 · subst h1;rw[b_,hd]
 · rw[de h1]
def Pg(d:Addr)(o:Obj)(kvs:List (Key×V)):It:=
 ⟨fun i H=>H d=some (.nQ o (.dK kvs))∧i<kvs.length,fun i H x H'=>H'=H∧∃k v,kvs[i]?=some (k,v)∧x=kV k,fun i H=>H d=some (.nQ o (.dK kvs))∧kvs.length≤i⟩
theorem Gq{P:Program}{w:World}{k:Key}{u:Value}(h:(i6 P w).is k u=true):RelV (kV k) u:=by
 rcases jm (show yD k u=true from h) with⟨i,t,rfl,rfl⟩|⟨x,t,rfl,rfl⟩
 · exact⟨t,rfl⟩
 · exact⟨t,rfl⟩
theorem IZ{P:Program}{w:World}{h:Heap}{d:Addr}{o:Obj}{kvs:List (Key×V)}{es:Array DictEntry}{ep:Nat}(hd:o.data=.dict es ep)(q:i9 P w H h d (.nQ o (.dK kvs))):(d ==sysModules)=false∧kvs.length≤sizeLine∧∃vs,KV kvs vs∧h.DictAt (i6 P w) d vs ep:=by
 obtain⟨ho,hz,hs,vs,kv,o',Pn,My,nX,h1,h2,h3⟩:=q
 rw[ho] at nX;cases nX
 rw[hd] at h2;cases h2
 exact⟨hs,hz,vs,kv,o,es,ho,h1,hd,h3⟩
theorem KV.at{κ:Type}{kvs:List (κ×V)}{vs:List (κ×Value)}(r:KV kvs vs):∀{i:Nat} {k:κ} {u:Value},vs[i]?=some (k,u)→∃v,kvs[i]?=some (k,v)∧RelV v u:=by
 induction r with
 | nil=>intro i k u e;simp at e
 | cons f t ih=>
   intro i k u e
   cases i with
   | zero=>
     simp at e
     subst e
     exact⟨_,congrArg some (Prod.ext f.1 rfl),f.2⟩
   | succ i=>
     obtain⟨v,h1,h2⟩:=ih (by simpa using e)
     exact⟨v,by simpa using h1,h2⟩
theorem Hn{P:Program}{w:World}{K:PySem.W.Frag}(d it:Addr)(o:Obj)(es:Array DictEntry)(ep:Nat)(kvs:List (Key×V))(Ki:o.data=.dict es ep):Turn P w K tg (Pg d o kvs) [it] it (fun i h=>h.IsKeyIter it d i kvs.length ep) where
 mem:=by simp
 obj:=fun i h st b hb=>by
   have e:b=it:=by simpa using hb
   subst e
   obtain⟨o,e,c,d⟩:=st
   exact⟨o,e,fun v z=>by rw[d] at z;cases z⟩
 keep:=fun i h h' st k=>st.at fun o e=>k it (by simp) o e
 item:=by
   intro X hP hw hK hc i pins s σ H E I hf st hg
   subst hP hw hK
   obtain⟨hd,hi⟩:=hg
   obtain⟨_,_,vs,kv,da⟩:=IZ Ki (I.iG d _ hd)
   have hl:kvs.length=vs.length:=kv.length
   have AY:i<vs.length:=by omega
   obtain⟨⟨k,u⟩,hx⟩:∃p,vs[i]?=some p:=⟨vs[i],by simp[AY]⟩
   obtain⟨v,hv,_⟩:=kv.at hx
   obtain⟨f0,f1,f2,f3,f4,f5⟩:=hf it (by simp)
   rw[hl] at st
   refine wpAny_pyNext_dict_item st da hx fun key h' OC AU sb=>?_
   have I1:Inv X pins σ H {s with heap:=h'}:=I.turned (t':=s.toks) (fun b o hb e=>(sb.2 b hb).trans e) f0 f1 f3 f4 f5
   obtain⟨o',e,c,dd⟩:=id AU
   exact⟨key,rfl,yI (s:={s with heap:=h'}) e c dd (by decide) ⟨kV k,H,I1,Gq OC,⟨rfl,k,v,hv,rfl⟩,by rw[hl];exact AU,fun b hb=>(hf b hb).1⟩⟩
 done:=by
   intro X hP hw hK hc i pins s σ H E I hf st hg
   subst hP hw hK
   obtain⟨hd,hi⟩:=hg
   obtain⟨_,_,vs,kv,da⟩:=IZ Ki (I.iG d _ hd)
   have hl:kvs.length=vs.length:=kv.length
   obtain⟨f0,f1,f2,f3,f4,f5⟩:=hf it (by simp)
   rw[hl] at st
   exact wpAny_pyNext_dict_end (I.ok.hd hc) st da (by simp;omega) fun h' eb=>⟨rfl,I.turned (t':=s.toks) (fun b o hb e=>eb b o hb e) f0 f1 f3 f4 f5⟩
 self:=fun _ _ _ _ _ st h=>wpAny_pyIter_keyiter st h
def Qs(X:Cx)(td:TE):TI:=fun σ H R=>td σ H fun x H1=>∃d kvs,x=.ref d∧H1 d=some (.dK kvs)∧∀o,AE X d→R (Pg d o kvs) (upd H1 d (.nQ o (.dK kvs)))
theorem B1{l:Expr}{td:TE}(hl:PE X l td):PI X tg l (Qs X td):=by
 intro pins s σ H R I h
 refine iY (hl pins s σ H _ I h) fun v s1 ⟨x,H1,I1,r1,q1⟩=>?_
 obtain⟨d,kvs,e,hd,q⟩:=q1
 subst e
 cases r1
 have nf:=I1.Ny hd True.intro
 obtain⟨o,ho,I2⟩:=I1.frozen hd True.intro
 obtain⟨_,hs,vs,kv,o',es,ep,nX,h1,h2,h3⟩:=(show i9 X.prog X.w H1 s1.heap d (.dK kvs) from I1.iG d _ hd)
 rw[ho] at nX;cases nX
 refine wpAny_pyIter_dict (kvs:=vs) (ep:=ep) hs ⟨o,es,ho,h1,h2,h3⟩ ?_
 refine⟨s1.heap.objs.size,[s1.heap.objs.size],_,_,_,rfl,I2.kept (t':=s1.toks) fun b o e=>Heap.get?_push_of_some _ e,Hn d _ o es ep kvs h2,⟨_,Heap.get?_push_size _ rfl,rfl,by rw[kv.length];rfl⟩,fun b hb=>?_,q o nf⟩
 have e:b=s1.heap.objs.size:=by simpa using hb
 subst e
 exact I2.yH (UU _) (I2.iG.fresh (UU _))
theorem I_{d:Addr}{o:Obj}{kvs:List (Key×V)}{g:TG}{tb:TS}{D:Ends}{σ:St}{H:Hp}(Pv:Nat→St→Hp→Prop)(h0:Pv 0 σ H)(hl:∀i σ H,Pv i σ H→H d=some (.nQ o (.dK kvs)))
   (hs:∀i k v σ H,kvs[i]?=some (k,v)→Pv i σ H→g (kV k) σ H fun σ2 H2=>tb {D with nx:=Pv (i+1),ct:=Pv (i+1),bk:=D.nx} σ2 H2) (hd:∀σ H,Pv kvs.length σ H→D.nx σ H) :
   ∃W:Nat→Nat→St→Hp→Prop,(∃m,W 0 m σ H)∧∀i m σ H,W i m σ H→
     ((Pg d o kvs).stop i H∧D.nx σ H)∨((Pg d o kvs).go i H∧∃N:St→Hp→Prop,(∀σ' H',N σ' H'→∃m',m'<m∧W (i+1) m' σ' H')∧∀x H',(Pg d o kvs).Iu i H x H'→g x σ H' fun σ2 H2=>tb {D with nx:=N,ct:=N,bk:=D.nx} σ2 H2):=by
 refine⟨fun i m σ H=>m=kvs.length-i∧i≤kvs.length∧Pv i σ H,⟨kvs.length,by simp,aaD _,h0⟩,?_⟩
 rintro i m σ H ⟨rfl,hi,p⟩
 have q:=hl i σ H p
 by_cases lu:i<kvs.length
 · refine .inr ⟨⟨q,lu⟩,Pv (i+1),fun σ' H' p'=>⟨kvs.length-(i+1),by omega,rfl,lu,p'⟩,fun x H' y=>?_⟩
   obtain⟨e,k,v,y,rfl⟩:=y
   subst e
   exact hs i k v σ _ y p
 · have e:i=kvs.length:=by omega
   subst e
   exact .inl ⟨⟨q,UU _⟩,hd σ H p⟩
theorem Gr{d:Addr}{o:Obj}{kvs:List (Key×V)}{g:TG}{tt:TT}{te:TE}{Q:List V→Hp→Prop}{σ:St}{H:Hp}(hn:kvs.length≤sizeLine)(Pv:Nat→List V→St→Hp→Prop)(h0:Pv 0 [] σ H)(hl:∀i ys σ H,Pv i ys σ H→H d=some (.nQ o (.dK kvs))∧ys.length≤i)
   (hs:∀i k v ys σ H,kvs[i]?=some (k,v)→Pv i ys σ H→g (kV k) σ H fun σ2 H2=>tt σ2 H2 fun b H3=>if b=true then te σ2 H3 fun v H4=>Pv (i+1) (ys++[v]) σ2 H4 else Pv (i+1) ys σ2 H3)
   (hd:∀ys σ H,Pv kvs.length ys σ H→Q ys H):Hm g tt te (Pg d o kvs) Q σ H:=by
 refine⟨fun i m ys σ H=>m=kvs.length-i∧i≤kvs.length∧Pv i ys σ H,⟨kvs.length,by simp,aaD _,h0⟩,?_⟩
 rintro i m ys σ H ⟨rfl,hi,p⟩
 obtain⟨q,hy⟩:=hl i ys σ H p
 by_cases lu:i<kvs.length
 · refine .inr ⟨⟨q,lu⟩,by omega,Pv (i+1),fun Po σ' H' p'=>⟨kvs.length-(i+1),by omega,rfl,lu,p'⟩,fun x H' y=>?_⟩
   obtain⟨e,k,v,y,rfl⟩:=y
   subst e
   exact hs i k v ys σ _ y p
 · have e:i=kvs.length:=by omega
   subst e
   exact .inl ⟨⟨q,UU _⟩,by omega,hd ys σ H p⟩
theorem o8{α β:Type}{F:α→β→Prop}:∀{xs:List α} {ys:List β},xs.length=ys.length→(∀(i:Nat) a b,xs[i]?=some a→ys[i]?=some b→F a b)→Paired F xs ys
 | [],[],_,_=>.nil
 | [],_::_,e,_=>by simp at e
 | _::_,[],e,_=>by simp at e
 | x::xs,y::ys,e,h=>.cons (h 0 x y rfl rfl) (o8 (by simpa using e) fun i a b ha hb=>h (i+1) a b (by simpa using ha) (by simpa using hb))
theorem qY(hc:X.calm=true):uC X (.type "list") (fun xs H Q=>∃d kvs,xs=[V.ref d]∧H d=some (.dK kvs)∧∀p,H p=none→Q (.ref p) (upd H p (.lst (kvs.map fun kv=>kV kv.1)))):=by
 intro pins s σ H xs us Q I r h
 obtain⟨d,kvs,rfl,hd,q⟩:=h
 obtain⟨u,rfl,ru⟩:=vals1 r
 cases (show u=Value.ref d from ru)
 obtain⟨hz,hs,vs,kv,o,es,ep,ho,h1,h2,h3⟩:=(show i9 X.prog X.w H s.heap d (.dK kvs) from I.iG d _ hd)
 have hl:kvs.length=vs.length:=kv.length
 refine PySem.W.kdl_call (PySem.W.kdl_dict (knd:=i6 X.prog X.w) (kvs:=vs) (ep:=ep) hs) (I.ok.hd hc) ⟨o,es,ho,h1,h2,h3⟩ (by omega) fun h' tk acc c hk hS vH=>?_
 have hf:H s.heap.objs.size=none:=I.iG.fresh (UU _)
 have rel:Vals (kvs.map fun kv=>kV kv.1) acc.toList:=by
   refine o8 (by rw[RF];have:acc.toList.length=acc.size:=aa1;rw[this,vH.1];exact hl) fun i a b ha hb=>?_
   obtain⟨k,x,Ru,hi⟩:=vH.2 i b (by rw[←aaY];exact hb)
   obtain⟨v,hv,_⟩:=kv.at Ru
   rw[aah,hv] at ha
   cases ha
   exact Gq hi
 refine⟨.ref s.heap.objs.size,upd H s.heap.objs.size (.lst (kvs.map fun kv=>kV kv.1)),I.laid (t':=tk) hk (UU _) ?_,rfl,q _ hf⟩
 exact⟨by rw[RF];exact hz,acc.toList,c,rel,by rw[Array.toArray_toList];exact hS⟩
end
def y6(CX:E4)(X:Cx)(σ₀:St)(E:XK):Prop:=∀(pins:List (Addr×Obj))(H:Hp)(s:Shared)(e:Value)(s':Shared),Inv X pins σ₀ H s→CX X.stack H s E e s'→X.xe e s'
def tAt(σ₀:St)(t:TE):TE:=fun σ H Q=>σ=σ₀∧t σ H Q
section
variable{X:Cx}{CX:E4}{k:Nat}{f C:Addr}{fd:FuncData}{ps:List Str}{sp:Sp}{uy:List V}{ds:List Value}{E:XK}{x m:Str}{p pos apos:Pos}{e o:Expr}{es:List Expr}{ta:TE}{t:TA}{σ₀:St}
theorem Nz{pins:List (Addr×Obj)}{H:Hp}{s:Shared}{Q:VK}{us:List Value}{vs:List V}(F:ie X.prog X.w X.K X.mg X.base CX k f fd ps sp)(hr:ku k X.A)(hb:Binds X.K fd ps ds)(hd:Vals uy ds)(hx:y6 CX X σ₀ E)
   (I:Inv X pins σ₀ H s) (r:Vals vs us) (h:sp (vs++uy) H Q E):wpAny (model X.prog X.w) X.A (call (.ref f) us) (EP X pins σ₀ Q) X.xe s:=by
 have r2:Vals (vs++uy) (us++ds):=r.append hd
 have hl:(us++ds).length=ps.length:=by rw[←r2.length];exact F.len _ _ _ _ h
 refine wpAny_call (codeAny_mono (F.run X.A X.stack s H ⟨us,[]⟩ (us++ds) (vs++uy) Q E hr I.K1 (hb s us I.Az hl) r2 h) fun r s' hq=>?_)
 cases r with
 | error e=>exact hx pins H s e s' I hq
 | ok fl=>
   cases fl with
   | ret u=>exact I.after hq
   | next=>exact False.elim hq
   | brk=>exact False.elim hq
   | cont=>exact False.elim hq
theorem Ja(F:ie X.prog X.w X.K X.mg X.base CX k f fd ps sp)(hr:ku k X.A)(hg:Gl X x)(hm:X.mg x=some (.ref f))(hk:PySem.W.keepIn X.K (.ref f)=true)(hb:Binds X.K fd ps ds)(hd:Vals uy ds)(hx:y6 CX X σ₀ E)
   (ha:PA X (e::es) t) (AW:(x ==("__debug__":Str))=false:=by decide) (he:starEach (e::es) X.env=(false,eval e X.env)::starEach es X.env:=by rfl) (oW:(backTo pos (starEach es X.env)).any (·.1)=false:=by rfl) :
   PE X (.Call (.Name x p) (e::es) [] pos) (tAt σ₀ (Ds sp uy E t)):=by
 intro pins s σ H Q I h
 obtain⟨rfl,h⟩:=h
 refine wpAny_Call_Name_kw (nY I hg hm ?_ AW)
 refine abz (h₀:=X.base) I.ok.mod.KP hk (iY (ha pos pins s σ H _ I h) fun us s1 ⟨vs,H1,I1,r,q⟩=>⟨I1.Az,?_⟩) he oW
 exact Nz F hr hb hd hx I1 r q
end
abbrev Cx.s_(X:Cx)(pn:List (Addr×Obj))(E':Value→Shared→Prop):Cx:={X with pn:=pn,xe:=E'}
abbrev Cx.hand(X:Cx)(e:Addr):Cx:={X with A:=X.A.mark (some (.ref e)),calm:=false,xe:=fun _ _=>False}
theorem Cx.Ok.s_{X:Cx}(ok:X.Ok)(pn:List (Addr×Obj))(E:Value→Shared→Prop):(X.s_ pn E).Ok:=
 ⟨ok.mod,ok.kind,ok.glob,ok.blt,ok.above,ok.inj,ok.has,ok.KQ,ok.hd,ok.frames,ok.Mh,ok.Pb,ok.bs,ok.G9,ok.pO,ok.Df,ok.qP,ok.Ij⟩
theorem Cx.Ok.hand{X:Cx}(ok:X.Ok)(e:Addr):(X.hand e).Ok:=
 ⟨ok.mod,ok.kind,ok.glob,ok.blt,ok.above,ok.inj,ok.has,ok.KQ,(fun z=>nomatch z),ok.frames,ok.Mh,ok.Pb,ok.bs,ok.G9,ok.pO,ok.Df,ok.qP,ok.Ij⟩
section
variable{X:Cx}{pins pn:List (Addr×Obj)}{σ:St}{H:Hp}{s:Shared}{E:Value→Shared→Prop}{e:Addr}
theorem Inv.s_(I:Inv X pins σ H s)(E:Value→Shared→Prop):Inv (X.s_ (X.pn++pins) E) [] σ H s:=
 ⟨I.ok.s_ _ E,I.os,I.bare,I.base,I.loc,I.cell,I.free,I.k_,fun p hp=>I.pin p (by simpa using hp),I.iG,I.len⟩
theorem Inv.pT{pl:List (Addr×Obj)}(ok:X.Ok)(I:Inv (X.s_ (X.pn++pins) E) pl σ H s):Inv X pins σ H s:=
 ⟨ok,I.os,I.bare,I.base,I.loc,I.cell,I.free,I.k_,fun p hp=>I.pin p (aal _ hp),I.iG,I.len⟩
theorem Inv.hand(I:Inv X pins σ H s)(e:Addr):Inv (X.hand e) pins σ H s:=
 ⟨I.ok.hand e,I.os,I.bare,I.base,I.loc,I.cell,I.free,I.k_,I.pin,I.iG,I.len⟩
theorem Inv.vV(ok:X.Ok)(I:Inv (X.hand e) pins σ H s):Inv X pins σ H s:=
 ⟨ok,I.os,I.bare,I.base,I.loc,I.cell,I.free,I.k_,I.pin,I.iG,I.len⟩
theorem SP.pT{D:Ends}{f:Flow}{s':Shared}{pl:List (Addr×Obj)}(ok:X.Ok)(h:SP (X.s_ (X.pn++pins) E) pl D f s'):SP X pins D f s':=by
 cases f with
 | next=>obtain⟨σ',H',I,q⟩:=h;exact⟨σ',H',I.pT ok,q⟩
 | brk=>obtain⟨σ',H',I,q⟩:=h;exact⟨σ',H',I.pT ok,q⟩
 | cont=>obtain⟨σ',H',I,q⟩:=h;exact⟨σ',H',I.pT ok,q⟩
 | ret u=>obtain⟨v,σ',H',I,r,q⟩:=h;exact⟨v,σ',H',I.pT ok,r,q⟩
theorem SP.vV{D:Ends}{f:Flow}{s':Shared}(ok:X.Ok)(h:SP (X.hand e) pins D f s'):SP X pins D f s':=by
 cases f with
 | next=>obtain⟨σ',H',I,q⟩:=h;exact⟨σ',H',I.vV ok,q⟩
 | brk=>obtain⟨σ',H',I,q⟩:=h;exact⟨σ',H',I.vV ok,q⟩
 | cont=>obtain⟨σ',H',I,q⟩:=h;exact⟨σ',H',I.vV ok,q⟩
 | ret u=>obtain⟨v,σ',H',I,r,q⟩:=h;exact⟨v,σ',H',I.vV ok,r,q⟩
end
theorem NA{P:Program}{w:World}{st:List Env}{H H':Hp}{s s':Shared}{e C:Addr}(F:Pe P w st H H' s s' e C)(Rv:∀b∈qO st,H b=none∧∃o,s.heap.get? b=some o){B h6:Heap}{t:Addr}(fl:Heap.FlyingW B st e (.ref C) (.ref t) s'.heap)
   (hB:∀b o,s'.heap.get? b=some o→b∉qO st→((∃u,H' b=some u)∨∃o',s.heap.get? b=some o')→B.get? b=some o) (Rw:B.StaysIn h6) (up:s'.heap.UpToSlots h6) :
   Un (qO st) [] H H' s.heap h6∧pN P w H' h6:=by
 have GU:∀b u,H' b=some u→b∉qO st:=fun b u hu hb=>by
   obtain⟨n,o,ho⟩:=Rv b hb
   rw[F.un.free b o ho n (by simp)] at hu;cases hu
 have vI:∀b o u,s'.heap.get? b=some o→H' b=some u→h6.get? b=some o:=fun b o u ho hu=>Rw b o (hB b o ho (GU b u hu) (.inl ⟨u,hu⟩))
 refine⟨⟨fun b o q n hb hx=>Rw b o (hB b o (F.un.keep b o q n hb hx) hb (.inr ⟨o,q⟩)),fun b o q n hb hx=>?_,F.un.free,fun b o q hx=>?_,F.un.oH,F.un.qQ,F.un.tP⟩,fun a u ha=>?_⟩
 · obtain⟨sl,q1⟩:=F.un.slot b o q n hb hx
   obtain⟨_,o',nX,hd⟩:=fl.2.2.1.mem hb
   rw[q1] at nX;cases nX
   obtain⟨Yl,q2⟩:=up b _ q1 hd
   exact⟨Yl,q2⟩
 · obtain⟨o2,q2⟩:=F.un.there b o q hx
   by_cases hb:b∈qO st
   · obtain⟨_,o',nX,hd⟩:=fl.2.2.1.mem hb
     rw[q2] at nX;cases nX
     obtain⟨Vs,q3⟩:=up b _ q2 hd
     exact⟨_,q3⟩
   · exact⟨o2,Rw b o2 (hB b o2 q2 hb (.inr ⟨o,q⟩))⟩
 · refine(F.iG a u ha).vL (fun b v hb q=>?_) (fun _ z=>z) fun _ _ z=>z
   rcases hb with z|z
   · rw[z] at q ⊢;exact vI a v u q ha
   · exact vI b v _ q z
def Fg(K:PySem.W.Frag)(C D:Addr):Bool:=PySem.W.excIn K C [.type "ValueError",.type "Exception",.type "BaseException",.type "object"] "ValueError.__new__"&&PySem.W.excIn K D [.type "ValueError",.type "Exception",.type "BaseException",.type "object"] "ValueError.__new__"&&
 match K.lookup C with
 | some ⟨_,_,.cls cd,_⟩=>cd.mro.contains (.ref D)
 | _=>false
theorem DI{M:Model}{A:Around}{E:Value→Shared→Prop}{K:PySem.W.Frag}{s:Shared}{e C D:Addr}{oe:Obj}{Q:Bool→Shared→Prop}(X:K.In s.heap)(q:Fg K C D=true)(he:s.heap.get? e=some oe)(hc:oe.cls=.ref C)(h:Q true s) :
   wpAny M A (excMatches (.ref e) (.ref D)) Q E s:=by
 unfold Fg at q
 rw[aaX,aaX] at q
 obtain⟨⟨q1,q2⟩,q3⟩:=q
 obtain⟨bm,N,nm,qn,bs,hdct,sn,sub,ab,col,dd,k0,k1,k2,k3,k5,mN,hC,hN,Rt,T⟩:=BZ X q1
 obtain⟨bm2,N2,nm2,qn2,bs2,hdct2,sn2,sub2,ab2,col2,Tf,k02,k12,k22,k32,k52,mN2,hD,hN2,hni2,T2⟩:=BZ X q2
 have hm:(Value.ref C::bm).contains (.ref D)=true:=by
   split at q3
   · rename_i c d cd sl ho
     have z:=X _ _ ho
     rw[hC] at z
     cases z
     exact q3
   · cases q3
 have hcB:(Value.ref D::bm2).contains (.type "BaseException")=true:=by rw[List.contains_cons,T2.hasType (b:=true) (by decide),Bool.or_true]
 have f:=tc_notTuple
 obtain⟨hh,g,d,tk,os⟩:=s
 unfold excMatches
 repeat (first|(with_reducible refine wpAny_loadPart_at he ?_;rw[hc])|with_reducible refine wpAny_loadPart_at hD ?_|(with_reducible refine wpAny_isSubtype_exc hD ?_;rw[hcB])|(with_reducible refine wpAny_isSubtype_exc hC ?_;rw[hm])|wp_step)
 exact h
def Ho(e C:Addr):HO:=.ext fun h=>∃o,h.get? e=some o∧o.cls=.ref C∧∃vs,o.data=.fields vs
section
variable{X:Cx}{pins:List (Addr×Obj)}{σ:St}{H:Hp}{s:Shared}{M:Model}{A:Around}{E:Value→Shared→Prop}
theorem Inv.Gm{a:Addr}{o:HO}(I:Inv X pins σ H s)(hn:H a=none)(h0:X.s₀.heap.get? a=none)(hL:a≠X.env.locals)(hC:∀x c,X.env.cells.lookup x=some c→c≠a)(hp:∀p∈X.pn++pins,p.1≠a)
   (new:i9 X.prog X.w (upd H a o) s.heap a o):Inv X pins σ (upd H a o) s:=by
 have ne:∀b u,H b=some u→b≠a:=fun b u e z=>by rw[z,hn] at e;cases e
 have ne0:∀b u,X.s₀.heap.get? b=some u→b≠a:=fun b u e z=>by rw[z,h0] at e;cases e
 refine⟨I.ok,I.os,I.bare,⟨I.base.keep,I.base.slot,fun b u q n hx=>by rw[de (ne0 b u q)];exact I.base.free b u q n hx,I.base.there,fun b xs q=>?_,fun b u v q=>?_,fun b ps q=>?_⟩,I.loc,I.cell,by rw[de (Ne.symm hL)];exact I.free,fun x c e=>by rw[de (hC x c e)];exact I.k_ x c e,fun p z=>?_,pN.Gm I.iG hn new,I.len⟩
 · have:=I.base.oH b xs q
   rw[de (ne b _ this)];exact this
 · have:=I.base.qQ b u v q
   rw[de (ne b _ this)];exact this
 · obtain⟨m,e⟩:=I.base.tP b ps q
   exact⟨m,by rw[de (ne b _ e)];exact e⟩
 · obtain⟨e1,e2,e3⟩:=I.pin p z
   exact⟨e1,by rw[de (hp p z)];exact e2,e3⟩
theorem yu{j:Nat}{n:Str}{pos:Pos}{Q:Unit→Shared→Prop}(I:Inv X pins σ H s)(hN:X.N.Nodup)(hi:X.N[j]?=some n)(hk:X.env.scope.names.lookup n=some .local)
   (h:∀s',Inv X pins (σ.set j none) H s'→Q () s'):wpAny M A (do bindName X.env n .none;unbindBehindTheSuite X.env n pos) Q E s:=by
 obtain⟨m,hn,hl⟩:=id I.loc
 have Oz:(X.env.scope.kind ==.class||(X.env.scope.kind ==.module&&X.env.locals != X.env.globals))=false:=by rw[I.ok.kind];rfl
 have S_:j<σ.length:=by rw[I.len];exact(RL.mp hi).1
 refine wpAny_nameGoes_keeps hk hn Oz fun h' v MA hs=>?_
 have Kj:∀b o,X.s₀.heap.get? b=some o→b≠X.env.locals:=fun b o e=>aaM (aaw (Heap.lt_size e) I.ok.above)
 refine h _ ⟨I.ok,I.os,I.bare,⟨fun b o e n hb hx=>?_,fun b o e n hb hx=>?_,I.base.free,fun b o e hx=>?_,I.base.oH,I.base.qQ,I.base.tP⟩,⟨_,MA,fun i y v' e1 e2 e3=>?_⟩,fun y c e=>?_,I.free,I.k_,fun p hp=>?_,fun b ob e=>?_,by simpa using I.len⟩
 · exact(hs.2 b (Kj b o e)).trans (I.base.keep b o e n hb hx)
 · obtain⟨sl,e1⟩:=I.base.slot b o e n hb hx
   exact⟨sl,(hs.2 b (Kj b o e)).trans e1⟩
 · obtain⟨o',e1⟩:=I.base.there b o e hx
   exact⟨o',(hs.2 b (Kj b o e)).trans e1⟩
 · by_cases hj:i=j
   · subst hj
     rw[aaZ S_] at e2
     cases e2
   · rw[aa5 (Ne.symm hj)] at e2
     obtain⟨u',r',q⟩:=hl i y v' e1 e2 e3
     refine⟨u',r',?_⟩
     rcases q with⟨k,e⟩|⟨k,c,e,z⟩
     · refine .inl ⟨k,?_⟩
       have:y≠n:=fun e=>hj (yE hN e1 (e▸hi))
       simp[this,e]
     · exact .inr ⟨k,c,e,z.sameBut hs (I.KS y c e)⟩
 · obtain⟨w',z⟩:=I.cell y c e
   exact⟨w',z.sameBut hs (I.KS y c e)⟩
 · obtain⟨e,n,ne,nf,d⟩:=I.pin p hp
   exact⟨(hs.2 p.1 ne).trans e,n,ne,nf,d⟩
 · refine(I.iG b ob e).vL (fun c w' hc q=>(hs.2 c ?_).trans q) (fun _ q=>q) fun _ _ q=>q
   rintro rfl
   rcases hc with rfl|hc
   · rw[I.free] at e;cases e
   · rw[I.free] at hc;cases hc
end
def Ends.gone(D:Ends)(j:Nat):Ends:={nx:=fun σ H=>D.nx (σ.set j none) H,rt:=D.rt,bk:=fun σ H=>D.bk (σ.set j none) H,ct:=fun σ H=>D.ct (σ.set j none) H}
def Qt(K:PySem.W.Frag)(D0:Addr)(j:Nat)(tb:St→XK→TS)(ts:TS):TS:=fun D σ H=>
 tb σ (fun cls _ H'=>∃C,cls=.ref C∧Fg K C D0=true∧∀e,H' e=none→ts (D.gone j) (σ.set j (some (.ref e))) (upd H' e (Ho e C))) D σ H
theorem Lf{X:Cx}{D0:Addr}{x n:Str}{j:Nat}{body MD:List Stmt}{b₀:Stmt}{np L4 pos:Pos}{tb:St→XK→TS}{ts:TS}(bd:Bd X)(hN:X.N.Nodup)(hj:X.N[j]?=some n)(hk:X.env.scope.names.lookup n=some .local)(hm:X.mg x=some (.ref D0))(hg:Gl X x)
   (hb:∀(σ₀:St)(pn:List (Addr×Obj))(E':Value→Shared→Prop)(EX:XK),y6 (sH X.prog X.w) (X.s_ pn E') σ₀ EX→Dg (X.s_ pn E') body (tb σ₀ EX))
   (hs:∀e,Dg (X.hand e) (b₀::MD) ts) (AW:(x ==("__debug__":Str))=false:=by decide) :
   PS X (.Try body [.ExceptHandler (some (.Name x np)) (some n) (b₀::MD) L4] [] [] pos) (Qt X.K D0 j tb ts):=by
 intro pins s σ H D I h
 refine wpAny_Try_except ?_
 refine iY (hb σ (X.pn++pins) _ _ ?_ [] s σ H D (I.s_ _) h) fun f s1 q=>?_
 · intro pl H1 s1 ev s' I1 hcx
   obtain⟨e,C,H',he,F,C',hC',yj,hts⟩:=hcx
   subst he
   cases hC'
   obtain⟨B,t,fl,hB⟩:=F.fl
   have Rq:Heap.FlyingW B X.stack e (.ref C) (.ref t) s'.heap:=fl
   rw[bd.stack] at Rq
   have Rv:∀b∈qO X.stack,H1 b=none∧∃o,s1.heap.get? b=some o:=fun b hb=>by
     obtain⟨_,o,ho,_⟩:=I1.stack.mem hb
     exact⟨I1.yp b hb,o,ho⟩
   refine wpAny_looks_onW (by rw[I.ok.frames,bd.stack]) bd.frame Rq fun h4 Rx Yn=>?_
   refine wpAny_landsW Rx fun h5 Vt Yo=>?_
   have go:∀h6,B.StaysIn h6→s'.heap.UpToSlots h6→Inv X pins σ H' {s' with heap:=h6}:=fun h6 Rw Vu=>by
     obtain⟨un6,Vv⟩:=NA F Rv fl hB Rw Vu
     exact(I1.Mi (s':={s' with heap:=h6}) (ch:=[]) F.os un6 Vv F.bare (fun _ z=>nomatch z)).pT I.ok
   have I5:=go h5 Vt.1 (Yn.trans Yo)
   obtain⟨ob,Ri,Vw⟩:=Vt.there
   refine wpAny_handleBy_cons (codeAny_handlers_test (nY (I5.hand e) hg hm ?_ AW)) (by intro q;cases q)
   refine DI I5.Az yj Ri Vw (codeAny_handlers_suite_as ?_)
   refine lands_againW Vt fun h6 Yp Vu=>?_
   have I6:=go h6 Yp.1 ((Yn.trans Yo).trans Vu)
   obtain⟨oe,ws,Yq,Vx,Vy,hoe0⟩:=Yp.first
   have OG:X.s₀.heap.get? e=none:=by
     cases q:X.s₀.heap.get? e with
     | none=>rfl
     | some o=>
       obtain⟨o1,q1⟩:=I1.base.there e o q (by show e∉X.ex;rw[bd.ex];simp)
       rw[F.new] at q1;cases q1
   have eL:e≠X.env.locals:=fun z=>by
     obtain⟨m,⟨o,_,_,ho,_⟩,_⟩:=I1.loc
     have ho:s1.heap.get? X.env.locals=some o:=ho
     rw[←z,F.new] at ho;cases ho
   have I7:=(I6.hand e).Gm (o:=Ho e C) F.free OG eL (fun y c ec z=>by
       obtain⟨v,o,ho,_⟩:=I1.cell y c ec
       rw[z,F.new] at ho;cases ho) (fun p hp z=>by
       obtain⟨e1,_⟩:=I1.pin p (aal _ hp)
       rw[z,F.new] at e1;cases e1)
     ⟨⟨oe,Yq,Vx,ws,Vy⟩,⟨oe,Yq⟩,fun h1 h2 ⟨o,e1,e2⟩ k=>⟨o,k o e1,e2⟩⟩
   refine yF (X:=X.hand e) I7 hN hj (.inl hk) (v:=.ref e) rfl (fun s7 I8=>?_) (.inr hk)
   refine wpAny_mono (hs e pins _ _ _ (D.gone j) I8 (hts e F.free)) (fun f s8 q=>?_) fun _ _ z=>z.elim
   have q:=q.vV I.ok
   cases f with
   | next=>obtain⟨σ',H2,I9,q⟩:=q;exact yu I9 hN hj hk fun s9 OK=>⟨_,H2,OK,q⟩
   | brk=>obtain⟨σ',H2,I9,q⟩:=q;exact yu I9 hN hj hk fun s9 OK=>⟨_,H2,OK,q⟩
   | cont=>obtain⟨σ',H2,I9,q⟩:=q;exact yu I9 hN hj hk fun s9 OK=>⟨_,H2,OK,q⟩
   | ret u=>obtain⟨v,σ',H2,I9,r,q⟩:=q;exact yu I9 hN hj hk fun s9 OK=>⟨v,_,H2,OK,r,q⟩
 · have q:=q.pT I.ok
   cases f with
   | next=>exact wpAny_execs_nil q
   | ret v=>exact q
   | brk=>exact q
   | cont=>exact q
structure Gs(k:Nat)(A:Around):Prop where
 dp:A.depth+3*k+5<recursionLimit
 un:A.units+16*k+200<cLine
theorem ku.hand{k:Nat}{A:Around}(r:ku k A)(e:Option Value):Gs k (A.mark e):=⟨r.dp,r.un⟩
structure Jb(P:Program)(w:World)(K:PySem.W.Frag)(mg:Str→Option Value)(base:Heap)(k:Nat)(f:Addr)(fd:FuncData)(ps:List Str)(sp:Sp):Prop where
 len:∀vs H Q E,sp vs H Q E→vs.length=ps.length
 run:∀(A:Around)(outer:List Env)(s:Shared)(H:Hp)(args:Args)(us:List Value)(vs:List V)(Q:VK)(E:XK),Gs k A→Dr P w K mg base A outer s H→BindsTo s fd args (ps.zip us)→Vals vs us→sp vs H Q E→
   codeAny (model P w) A (.call (.ref f) args) (CR lZ outer P w H s Q E) s
def Jc(P:Program)(w:World)(K:PySem.W.Frag)(mg:Str→Option Value)(base:Heap)(N:List Str)(qual:Str)(scope:Scope)(f:Addr)(cd:Value)(A:Around)(outer:List Env)(s:Shared)(H:Hp):Cx:=
 {vO lZ P w K mg base N qual scope f cd A outer s H E0 with calm:=false,xe:=fun _ _=>False}
section
variable{P:Program}{w:World}{K:PySem.W.Frag}{mg:Str→Option Value}{base:Heap}
theorem Ax.okH{x qual:Str}{st:Stmt}{f:Addr}{fd:FuncData}{N ps:List Str}{k:Nat}{sp:Sp}(F:Ax K x qual st f fd)(S:gm N ps (fU st))(len:∀vs H Q E,sp vs H Q E→vs.length=ps.length)
   (z8:∀(jd:Value)(A:Around)(outer:List Env)(s:Shared)(H:Hp)(vs:List V)(Q:VK)(E:XK),Gs k (A.deeper (envOfC qual (fU st) s.heap.objs.size f jd))→sp vs H Q E→
     ∃t,Dg (Jc P w K mg base N qual (fU st) f jd A outer s H) (mf st) t∧t {nx:=fun _ H'=>Q .jv H',rt:=Q} (start N vs) H):Jb P w K mg base (k+1) f fd ps sp:=by
 obtain⟨oc,od,kV,doc,pm,an,jd,ct,HZ,rfl,lk,Ay⟩:=F.ex
 refine⟨len,fun A outer s H args us vs Q E hr e0 hb r H_=>?_⟩
 have hl:=len _ _ _ _ H_
 have KX:K.In s.heap:=e0.mod.KP.keeps fun b o e=>(e0.bs b o e).1
 have lim:s.heap.NoLimit:=e0.mod.nolimit.keeps fun b o e=>(e0.bs b o e).1
 have Kc:∀y∈ps.zip us,(fU st).names.lookup y.1=some .local∨((fU st).names.lookup y.1=some .cell∧((cellsFrom (s.heap.objs.size+1) (fU st).names []).lookup y.1).isSome=true):=fun⟨n,v⟩ hy=>by
   rcases S.par n (List.of_mem_zip hy).1 with e|e
   · exact .inl e
   · obtain⟨c,hc⟩:=yN (n:=s.heap.objs.size+1) e
     exact .inr ⟨e,by rw[hc];rfl⟩
 refine codeAny_call_function (by have:=hr.dp;omega) (KX _ _ lk) rfl S.co S.gen rfl (PySem.W.codeRec_of KX Ay) (hb _ _ _ _ ?_)
 refine wpAny_newFunctionEnv_cells S.kind Kc fun env he s1 x=>?_
 subst he
 refine⟨lim.keeps x.toInCall.keep,codeAny_func ?_⟩
 obtain⟨t,ht,hq⟩:=z8 jd A outer s H vs Q E ⟨by have:=hr.dp;show A.depth+1+3*k+5<_;omega,by have:=hr.un;show A.units+3+16*k+200<_;omega⟩ H_
 have I0:Inv (vO lZ P w K mg base N qual (fU st) f jd {A with handled:=none} outer s H E0) [] (start N vs) H s1:=A9 S rfl ⟨e0.frames,e0.mod,e0.bs,e0.G9,e0.qP,e0.Ij,e0.iG,e0.bare⟩ hl r x
 have I:Inv (Jc P w K mg base N qual (fU st) f jd A outer s H) [] (start N vs) H s1:=
   ⟨⟨I0.ok.mod,I0.ok.kind,I0.ok.glob,I0.ok.blt,I0.ok.above,I0.ok.inj,I0.ok.has,I0.ok.KQ,(fun z=>nomatch z),Around.frames_deeper e0.frames,I0.ok.Mh,I0.ok.Pb,I0.ok.bs,I0.ok.G9,I0.ok.pO,I0.ok.Df,I0.ok.qP,I0.ok.Ij⟩,I0.os,I0.bare,I0.base,I0.loc,I0.cell,I0.free,I0.k_,I0.pin,I0.iG,I0.len⟩
 refine wpAny_mono (ht [] s1 (start N vs) H _ I hq) (fun fl s' hs=>?_) fun e s' hs=>hs.elim
 have fin:∀{σ':St} {H':Hp} {v:V} {u:Value},Inv (Jc P w K mg base N qual (fU st) f jd A outer s H) [] σ' H' s'→RelV v u→Q v H'→CE outer P w H s Q u s':=
   fun{σ' H' v u} J rv q=>⟨v,H',J.os,J.bare,J.base,J.iG,rv,q⟩
 cases fl with
 | ret u=>obtain⟨v,σ',H',J,rv,q⟩:=hs;exact fin J rv q
 | next=>obtain⟨σ',H',J,q⟩:=hs;exact fin (v:=.jv) J rfl q
 | brk=>obtain⟨σ',H',J,q⟩:=hs;exact q.elim
 | cont=>obtain⟨σ',H',J,q⟩:=hs;exact q.elim
end
section
variable{X:Cx}{k:Nat}{f:Addr}{fd:FuncData}{ps:List Str}{sp:Sp}{x:Str}{p pos:Pos}{e:Expr}{es:List Expr}{t:TA}
theorem Jd(F:Jb X.prog X.w X.K X.mg X.base k f fd ps sp)(hr:Gs k X.A)(hg:Gl X x)(hm:X.mg x=some (.ref f))(hk:PySem.W.keepIn X.K (.ref f)=true)(hb:Binds X.K fd ps [])
   (ha:PA X (e::es) t) (AW:(x ==("__debug__":Str))=false:=by decide) (he:starEach (e::es) X.env=(false,eval e X.env)::starEach es X.env:=by rfl) (oW:(backTo pos (starEach es X.env)).any (·.1)=false:=by rfl) :
   PE X (.Call (.Name x p) (e::es) [] pos) (Ds sp [] E0 t):=by
 intro pins s σ H Q I h
 refine wpAny_Call_Name_kw (nY I hg hm ?_ AW)
 refine abz (h₀:=X.base) I.ok.mod.KP hk (iY (ha pos pins s σ H _ I h) fun us s1 ⟨vs,H1,I1,r,q⟩=>⟨I1.Az,?_⟩) he oW
 have q:sp (vs++[]) H1 Q E0:=q
 rw[aaB] at q
 have hl:(us++[]).length=ps.length:=by rw[aaB,←r.length];exact F.len _ _ _ _ q
 have Vq:=hb s1 us I1.Az hl
 rw[aaB] at Vq
 refine wpAny_call (codeAny_mono (F.run X.A X.stack s1 H1 ⟨us,[]⟩ us vs Q E0 hr I1.K1 Vq r q) fun r s' hq=>?_)
 cases r with
 | error e=>exact False.elim hq
 | ok fl=>
   cases fl with
   | ret u=>exact I1.after hq
   | next=>exact False.elim hq
   | brk=>exact False.elim hq
   | cont=>exact False.elim hq
end
open PySem PySem.Spec PyProof.Rows PySem.W PySem.Builtin PySem.Builtin.ObjectAttr PySem.Builtin.Getset_descriptor
structure DJ(K:PySem.W.Frag)(C:Addr):Prop where
 ga:PySem.W.findIn K (.ref C) "__getattribute__"=some (some (.builtin "BaseException.__getattribute__"))
 gt:PySem.W.findIn K (.ref C) "__getattr__"=some none
 cl:PySem.W.findIn K (.ref C) "__class__"=some (some (.builtin "object.__class__"))
 ob:PySem.W.mroIn K C (.type "object")=some true
 be:PySem.W.mroIn K C (.type "BaseException")=some true
 cs:(PySem.W.clsIn K C).isSome=true
def y7(e C:Addr)(h:Heap):Prop:=∃o,h.get? e=some o∧o.cls=.ref C∧∃vs,o.data=.fields vs
section
variable{K:PySem.W.Frag}{e C:Addr}{prog:Program}{w:World}{A:Around}{E:Value→Shared→Prop}{h:Heap}{g:Array GenState}{d:Drawn}{t:Nat}{os:OsState}
theorem o9{M:Model}(p:y7 e C h):Looks M h (typeOf (.ref e)) (.ref C):=by
 obtain⟨o,ho,hc,_⟩:=p
 exact hc▸(Looks.ld ho).andThen .now
theorem Je{M:Model}{ME:Value}{Q:Unit→Shared→Prop}(X:K.In h)(x:DJ K C)(p:y7 e C h)(hq:Q () ⟨h,g,d,t,os⟩):wpAny M A (checkBuiltinCall "BaseException.__getattribute__" ⟨[.ref e,ME],[]⟩) Q E ⟨h,g,d,t,os⟩:=by
 have hk:builtinKind "BaseException.__getattribute__"=some .slot:=by decide+kernel
 have OL:splitId "BaseException.__getattribute__"=some ("BaseException","__getattribute__"):=by decide+kernel
 have ha:=F.args_bexc_ga (.ref e) ME
 have L0:=o9 (M:=M) p
 have L1:=looks_mroIn (M:=M) X x.be
 simp only [checkBuiltinCall,hk,OL]
 refine wpAny_bind ?_
 unfold isInstance
 repeat (first|(with_reducible refine wpAny_bind (L0.at ?_))|(with_reducible refine L1.at ?_)|wp_step)
 exact hq
theorem NB{R:Result→Shared→Prop}{tp:Value}(X:K.In h)(x:DJ K C)(p:y7 e C h)(hq:R (.ok (.ret (.ref C))) ⟨h,g,d,t,os⟩) :
   codeAny (model prog w) A (.call (.builtin "getset_descriptor.__get__") ⟨[.builtin "object.__class__",.ref e,tp],[]⟩) R ⟨h,g,d,t,os⟩:=by
 have L0:=o9 (M:=model prog w) p
 have L1:=looks_mroIn (M:=model prog w) X x.ob
 refine codeAny_call_builtin KF.slot_gs.plain KF.entry_gs (KF.slot_gs.check _ _ _ _ _ _ _ _ KF.type_class (KF.args_gs _ _ _) ?_)
 unfold Builtin.«getset_descriptor.__get__» descrGet
 rw[dga_obj]
 refine wpAny_bind (wpAny_pure ?_)
 unfold descrGetter descrCheckInstance descrNameAndClass isInstance
 simp only [KF.owner_class]
 repeat lk
 refine⟨Code.quiet_builtin _ (by decide+kernel),codeAny_builtin KF.entry_class ?_⟩
 unfold Builtin.«object.__class__» shownTypeOf
 repeat lk
 exact hq
theorem NC{tk:Tok}{Q:Fin→Shared→Prop}(X:K.In h)(x:DJ K C)(p:y7 e C h)(hq:Q (.done (.ret (.ref C))) ⟨h,g,d,t,os⟩) :
   wpAny (model prog w) A (Builtin.«object.__getattribute__» ⟨[.ref e,.str "__class__" tk],[]⟩) Q E ⟨h,g,d,t,os⟩:=by
 have L0:=o9 (M:=model prog w) p
 have L1:=looks_findIn (M:=model prog w) X x.cl
 have f5:=F.typeOf_object_class
 have f6:=F.slot_gs_get.lookup
 have f7:=F.slot_gs_set.lookup
 have hT5:(⟨h,g,d,t,os⟩:Shared).TypeIs (.builtin "object.__class__") "getset_descriptor":=F.typeOf_object_class
 repeat (any_goals (first|assumption|with_reducible refine wpAny_bind (L0.at ?_)|with_reducible refine L0.at ?_|with_reducible refine wpAny_bind (L1.at ?_)|with_reducible refine L1.at ?_|wp_step))
 refine NB X x p ?_
 repeat (any_goals (first|assumption|wp_step))
theorem Qu{Q:Option Value→Shared→Prop}(X:K.In h)(x:DJ K C)(p:y7 e C h)(hq:Q (some (.ref C)) ⟨h,g,d,t+1,os⟩) :
   wpAny (model prog w) A (getAttr? (.ref e) "__class__") Q E ⟨h,g,d,t,os⟩:=by
 have L0:=o9 (M:=model prog w) p
 have L1:=looks_findIn (M:=model prog w) X x.ga
 have L2:=looks_findIn (M:=model prog w) X x.gt
 have f3:=F.attr_ValueError.ga.bind (.ref e)
 have hx2:(Value.builtin "BaseException.__getattribute__" ==Value.builtin "object.__getattribute__")=false:=by decide+kernel
 have hx1:(onTheHeap (Value.ref C)&&Value.builtin "BaseException.__getattribute__" ==Value.builtin "object.__getattribute__")=false:=by rw[hx2];rfl
 unfold getAttr? getAttrBy? getAttrBy
 repeat (any_goals (first|assumption|with_reducible refine wpAny_bind (L0.at ?_)|with_reducible refine L0.at ?_|with_reducible refine wpAny_bind (L1.at ?_)|with_reducible refine L1.at ?_|with_reducible refine wpAny_bind (L2.at ?_)|with_reducible refine L2.at ?_|wp_step))
 refine codeAny_call_builtin F.attr_ValueError.ga.plain F.entry_bexc_ga (Je X x p (NC X x p ?_))
 repeat (any_goals (first|assumption|wp_step))
end
theorem Jf{K:PySem.W.Frag}{e C:Addr}(x:DJ K C):KitX K (.ref e) (.ref C) (y7 e C) where
 ty:=fun _ _ _ p=>o9 p
 it:=fun _ _ X _=>by
   have z:=x.cs
   unfold clsIn at z
   split at z
   · rename_i c' d' cd' Va ho
     intro A' Q' E' s' k q
     unfold isType loadHead
     exact wpAny_bind (wpAny_loadPart (k _ _ (X _ _ ho)) (wpAny_pure q))
   · cases z
 ne:=fun h tp dd hX n sl X Vz=>by
   refine abc.mpr fun q=>?_
   have e:C=tp:=Value.ref.inj (beq_iff_eq.mp q)
   subst e
   have z:=x.cs
   unfold clsIn at z
   split at z
   · rename_i c' d' cd' Va ho
     have z:=(X _ _ ho).symm.trans Vz
     cases z
   · cases z
 ca:=fun{_ _ _ _ _ s} X p k=>by
   obtain⟨h,g,d,t,os⟩:=s
   exact Qu X x p k
theorem kG{X:Cx}:uC X (.builtin "isinstance") (fun xs H Q=>∃e C c cv b,xs=[.ref e,c]∧RelV c cv∧(∀u,RelV c u→u=cv)∧H e=some (Ho e C)∧DJ X.K C∧PySem.W.kitOne X.K (.ref C) cv=some b∧Q (.bl b) H):=by
 intro pins s σ H xs us Q I r h
 obtain⟨e,C,c,cv,b,rfl,rc,hu,he,xk,hk,q⟩:=h
 obtain⟨u,u',rfl,ru,ru'⟩:=vals2 r
 cases (show u=Value.ref e from ru)
 obtain rfl:=hu u' ru'
 have p:y7 e C s.heap:=(show i9 X.prog X.w H s.heap e (Ho e C) from I.iG e _ he).1
 exact kia_one (Jf xk) I.Az p hk (fun z=>nomatch z) fun tk=>⟨.bl b,H,I.tok tk,rfl,q⟩
theorem jK{xs:List V}(h:xs.length≤15:=by simp):xs.length≤sizeLine:=aac h (by decide)
theorem iB{α:Type}{xs:List α}{i:Int}{j:Nat}{v:α}(e:i=(j:Int))(h:xs[j]?=some v):E6 xs i=some v:=by subst e;exact K3 h
theorem B2{n:Nat}{i:Int}{j:Nat}(e:i=(j:Int))(h:j<n):IB n i=some j:=by
 subst e
 unfold IB
 rw[aap (by omega),aap (by omega)]
 simp
theorem gb.upd{H H':Hp}{p:Addr}{o:HO}(s:gb H H')(h:H p=none):gb H (L2.upd H' p o):=fun b u e=>by rw[de (gg e h)];exact s b u e
theorem gb.new{H H':Hp}{p:Addr}{o:HO}(s:gb H H')(h:H' p=none):gb H (L2.upd H' p o):=s.upd (s.free h)
def US(t:TS):TS:=fun D σ H=>∃J:St→Hp→Prop,t {D with nx:=J} σ H∧∀σ' H',J σ' H'→D.nx σ' H'
theorem SP.nx{X:Cx}{pins:List (Addr×Obj)}{D:Ends}{J:St→Hp→Prop}{f:Flow}{s:Shared}(hJ:∀σ' H',J σ' H'→D.nx σ' H')(h:SP X pins {D with nx:=J} f s):SP X pins D f s:=by
 cases f with
 | next=>obtain⟨σ,H,I,q⟩:=h;exact⟨σ,H,I,hJ _ _ q⟩
 | brk=>exact h
 | cont=>exact h
 | ret u=>exact h
theorem qZ{X:Cx}{st:Stmt}{t:TS}(h:PS X st t):PS X st (US t):=fun pins s σ H D I ⟨J,h1,h2⟩=>iY (h pins s σ H _ I h1) fun f s' q=>SP.nx h2 q
theorem q0{α:Type}{xs:List α}{i:Int}(h0:0≤i)(h:i<(xs.length:Int)):∃v,E6 xs i=some v∧xs[i.toNat]?=some v:=by
 have hi:i.toNat<xs.length:=by omega
 exact⟨xs[i.toNat],iB (j:=i.toNat) (by omega) (UR hi),UR hi⟩
theorem Qv{b:Bool}{A B:Prop}(e:b=false)(h:B):if b=true then A else B:=by subst e;exact k7 h
theorem Jg{b:Bool}{A B:Prop}(e:b=true)(h:A):if b=true then A else B:=by subst e;exact mD h
theorem mod_lt(a b:Int)(h:0<b):0≤a%b∧a%b<b:=⟨Int.emod_nonneg a (by omega),Int.emod_lt_of_pos a h⟩
abbrev gh(l:List Str):List V:=l.map V.str
theorem jo(xs:List Str)(x:Str):gh xs++[V.str x]=gh (xs++[x]):=by unfold gh;rw[aam];rfl
theorem mw(x y:List Str):gh x++gh y=gh (x++y):=by unfold gh;rw[aam]
theorem n9{l:List Str}{j:Nat}{x:Str}(h:l[j]?=some x):(gh l)[j]?=some (V.str x):=by rw[aah,h];rfl
theorem kT{l:List Str}{j:Nat}{v:V}(h:(gh l)[j]?=some v):∃x,l[j]?=some x∧v=V.str x:=by
 rw[aah] at h
 cases e:l[j]? with
 | none=>rw[e] at h;cases h
 | some x=>rw[e] at h;cases h;exact⟨x,rfl,rfl⟩
theorem UT{A:Around}{k:Nat}(hr:ku k A){n:Nat}(h:n≤60:=by decide):A.units+n+1<cLine:=by have:=hr.units;omega
theorem ig{H:Hp}{a q:Addr}{o u:HO}(hq:H q=none)(h:H a=some o):upd H q u a=some o:=by rw[de (gg h hq)];exact h
section
variable{X:Cx}{tg:Expr}
def Ph(x:Str):It:=⟨fun i _=>i<x.length,fun i H v H'=>H'=H∧∃c,x.cps[i]?=some c∧v=.str ⟨#[c]⟩,fun i _=>i=x.length⟩
theorem Bj{P:Program}{w:World}{K:PySem.W.Frag}(it:Addr)(ty:String)(x:Str)(t:Tok)(Ra:["enumerate","zip","dict_itemiterator","dict_reverseitemiterator","odict_iterator","itertools.zip_longest","itertools.pairwise"].contains ty=false)
   (W:∀A:Around,A.handled=none→Walks P w A it [it] [it] x.cps.size (SignAt x) (fun i h=>h.IsStrIter it ty x t i))
   (self:∀(A:Around)(i:Nat)(s:Shared)(Q:Value→Shared→Prop)(E:Value→Shared→Prop),s.heap.IsStrIter it ty x t i→Q (.ref it) s→wpAny (model P w) A (pyIter (.ref it)) Q E s):Turn P w K tg (Ph x) [it] it (fun i h=>h.IsStrIter it ty x t i) where
 mem:=by simp
 obj:=fun i h st b hb=>by
   have e:b=it:=by simpa using hb
   subst e
   obtain⟨o,e,c,d⟩:=st
   exact⟨o,e,fun v z=>by rw[d] at z;cases z⟩
 keep:=fun i h h' ⟨o,ho,r⟩ k=>⟨o,k it (by simp) o ho,r⟩
 item:=by
   intro X hP hw hK hc i pins s σ H E I hf st hg
   subst hP hw hK
   obtain⟨f0,f1,f2,f3,f4,f5⟩:=hf it (by simp)
   refine(W X.A (I.ok.hd hc)).item i s _ _ hg st fun v h' tk hv AU kk=>?_
   obtain⟨c,t',BG,rfl⟩:=hv
   have I1:Inv X pins σ H {s with heap:=h',toks:=tk}:=I.turned (fun b o hb e=>kk b o (by simpa using hb) e) f0 f1 f3 f4 f5
   obtain⟨o',e,cc,dd⟩:=id AU
   exact⟨_,rfl,yI (s:={s with heap:=h',toks:=tk}) e cc dd Ra ⟨.str ⟨#[c]⟩,H,I1,⟨t',rfl⟩,⟨rfl,c,BG,rfl⟩,AU,fun b hb=>(hf b hb).1⟩⟩
 done:=by
   intro X hP hw hK hc i pins s σ H E I hf st hg
   subst hP hw hK
   obtain⟨f0,f1,f2,f3,f4,f5⟩:=hf it (by simp)
   have e:i=x.cps.size:=hg
   subst e
   exact(W X.A (I.ok.hd hc)).done s _ _ st fun h' tk kk=>⟨rfl,I.turned (fun b o hb e=>kk b o (by simpa using hb) e) f0 f1 f3 f4 f5⟩
 self:=self
def Qw(te:TE):TI:=fun σ H R=>te σ H fun v H1=>∃x,v=.str x∧R (Ph x) H1
theorem ND{l:Expr}{te:TE}(hl:PE X l te):PI X tg l (Qw te):=by
 intro pins s σ H R I h
 refine iY (hl pins s σ H _ I h) fun v s1 ⟨y,H1,I1,r1,x,e,q⟩=>?_
 subst e
 obtain⟨t,rfl⟩:=r1
 have fin:∀(ty:String)(T:Turn X.prog X.w X.K tg (Ph x) [s1.heap.objs.size] s1.heap.objs.size (fun i h=>h.IsStrIter s1.heap.objs.size ty x t i)),
     Up X pins σ tg R (.ref s1.heap.objs.size) {s1 with heap:=s1.heap.push {cls:=.type ty,data:=.fields #[.str x t,.int 0 0]}}:=fun ty T=>by
   refine⟨s1.heap.objs.size,[s1.heap.objs.size],_,_,H1,rfl,I1.kept (t':=s1.toks) fun b o e=>Heap.get?_push_of_some _ e,T,⟨_,Heap.get?_push_size _ rfl,rfl,rfl⟩,fun b hb=>?_,q⟩
   have e:b=s1.heap.objs.size:=by simpa using hb
   subst e
   exact I1.yH (UU _) (I1.iG.fresh (UU _))
 cases ha:x.cps.all (·<128)
 · exact wpAny_pyIter_wide ha (fin _ (Bj _ _ x t (by decide) (fun A hh=>Walks.strWide hh _ x t) fun _ _ _ _ _ st h=>wpAny_pyIter_striter_wide st h))
 · exact wpAny_pyIter_ascii ha (fin _ (Bj _ _ x t (by decide) (fun A hh=>Walks.strAscii hh _ x t) fun _ _ _ _ _ st h=>wpAny_pyIter_striter_ascii st h))
theorem Jh{x:Str}{g:TG}{tb:TS}{D:Ends}{σ:St}{H:Hp}(Pv:Nat→St→Hp→Prop)(h0:Pv 0 σ H)
   (hs:∀i c σ H,x.cps[i]?=some c→Pv i σ H→g (.str ⟨#[c]⟩) σ H fun σ2 H2=>tb {D with nx:=Pv (i+1),ct:=Pv (i+1),bk:=D.nx} σ2 H2) (hd:∀σ H,Pv x.length σ H→D.nx σ H) :
   ∃W:Nat→Nat→St→Hp→Prop,(∃m,W 0 m σ H)∧∀i m σ H,W i m σ H→
     ((Ph x).stop i H∧D.nx σ H)∨((Ph x).go i H∧∃N:St→Hp→Prop,(∀σ' H',N σ' H'→∃m',m'<m∧W (i+1) m' σ' H')∧∀v H',(Ph x).Iu i H v H'→g v σ H' fun σ2 H2=>tb {D with nx:=N,ct:=N,bk:=D.nx} σ2 H2):=by
 refine⟨fun i m σ H=>m=x.length-i∧i≤x.length∧Pv i σ H,⟨x.length,by simp,aaD _,h0⟩,?_⟩
 rintro i m σ H ⟨rfl,hi,p⟩
 by_cases lu:i<x.length
 · refine .inr ⟨lu,Pv (i+1),fun σ' H' p'=>⟨x.length-(i+1),by omega,rfl,lu,p'⟩,fun v H' y=>?_⟩
   obtain⟨e,c,hc,rfl⟩:=y
   subst e
   exact hs i c σ _ hc p
 · have e:i=x.length:=by omega
   subst e
   exact .inl ⟨rfl,hd σ H p⟩
def tFi(te:TE):TE:=fun σ H Q=>te σ H fun v H1=>∃i:Int,v=.int i∧i.natAbs.log2<1920∧Q (.str (toString i)) H1
theorem Ji{e:Expr}{te:TE}{pos:Pos}(he:PE X e te):PE X (.FormattedValue e (-1) none pos) (tFi te):=by
 intro pins s σ H Q I h
 refine FormattedValue_plain (iY (he pins s σ H _ I h) fun u s1 ⟨v,H1,I1,r1,i,ev,hy,q⟩=>?_)
 subst ev
 obtain⟨t',rfl⟩:=r1
 exact formatField_int_small hy ⟨.str (toString i),H1,I1.tok _,⟨_,rfl⟩,q⟩
end
theorem n5.Qx{K:PySem.W.Frag}{H:Hp}{n:Nat}(p q:Bool):n5 K H n (.bl p) (.bl q) (decide (p=q)):=by
 have:Gk (.bl p) (.bl q)=decide (p=q):=by cases p<;>cases q<;>rfl
 rw[←this]
 exact .flat rfl rfl
section
variable{X:Cx}{tg:Expr}
def Jj(K:PySem.W.Frag)(a:Addr)(n:Nat):It:=
 ⟨fun i H=>i<n∧∃xs,hV K H a xs∧xs.length=n,fun i H x H'=>H'=H∧∀xs,hV K H a xs→xs[n-1-i]?=some x,fun i _=>i=n⟩
theorem Jk{P:Program}{w:World}{K:PySem.W.Frag}(a it:Addr)(n:Nat):Turn P w K tg (Jj K a n) [it] it (fun i h=>h.IsRevIter it a ((n:Int)-1-(i:Nat))) where
 mem:=by simp
 obj:=fun i h st b hb=>by
   have e:b=it:=by simpa using hb
   subst e
   obtain⟨o,e,c,d⟩:=st
   exact⟨o,e,fun v z=>by rw[d] at z;cases z⟩
 keep:=fun i h h' st k=>st.at fun o e=>k it (by simp) o e
 item:=by
   intro X hP hw hK hc i pins s σ H E I hf st hg
   subst hP hw hK
   obtain⟨hi,xs,hq,hl⟩:=hg
   obtain⟨hX,rv,p,hz⟩:=I.list hq
   have hx:xs[n-1-i]?=some xs[n-1-i]:=UR (by omega)
   obtain⟨u,hu,ru⟩:=rv.get hx
   obtain⟨f0,f1,f2,f3,f4,f5⟩:=hf it (by simp)
   have e1:(n:Int)-1-(i:Nat)=((n-1-i:Nat):Int):=by omega
   rw[e1] at st
   refine wpAny_pyNext_rev_item st p.isList (x:=u) (by simpa using hu) fun h' AU sb=>?_
   have e2:((n-1-i:Nat):Int)-1=(n:Int)-1-((i+1:Nat):Int):=by omega
   rw[e2] at AU
   have I1:Inv X pins σ H {s with heap:=h'}:=I.turned (t':=s.toks) (fun b o hb e=>(sb.2 b hb).trans e) f0 f1 f3 f4 f5
   obtain⟨o,e,c,d⟩:=id AU
   exact⟨u,rfl,yI (s:={s with heap:=h'}) e c d (by decide) ⟨_,H,I1,ru,⟨rfl,fun ys hy=>by rw[I.o6 hy hq];exact hx⟩,AU,fun b hb=>(hf b hb).1⟩⟩
 done:=by
   intro X hP hw hK hc i pins s σ H E I hf st hg
   subst hP hw hK
   have hg:i=n:=hg
   subst hg
   obtain⟨f0,f1,f2,f3,f4,f5⟩:=hf it (by simp)
   have e1:(i:Int)-1-(i:Nat)=-1:=by omega
   rw[e1] at st
   exact wpAny_pyNext_rev_end (I.ok.hd hc) st fun h' eb=>⟨rfl,I.turned (t':=s.toks) (fun b o hb e=>eb b o hb e) f0 f1 f3 f4 f5⟩
 self:=fun _ _ _ _ _ st h=>wpAny_pyIter_revIter st h
def Qy(K:PySem.W.Frag)(ta:TA):TI:=fun σ H R=>ta σ H fun vs H1=>∃a xs,vs=[.ref a]∧hV K H1 a xs∧R (Jj K a xs.length) H1
theorem Lg{a:Expr}{ta:TA}{p pos:Pos}(hg:Gl X "reversed")(hm:X.mg "reversed"=none)(ha:PA X [a] ta)(hs:starEach [a] X.env=[(false,eval a X.env)]:=by rfl):PI X tg (.Call (.Name "reversed" p) [a] [] pos) (Qy X.K ta):=by
 intro pins s σ H R I h
 refine Call_ (oI I hg hm boot_reversed (aaP (iY (ha pos pins s σ H _ I h) fun us s1 ⟨vs,H1,I1,r1,q1⟩=>?_) hs rfl))
 obtain⟨l,xs,rfl,hq,q⟩:=q1
 obtain⟨u,rfl,ru⟩:=vals1 r1
 cases (show u=Value.ref l from ru)
 obtain⟨hX,rv,pp,hz⟩:=I1.list hq
 have hl:=rv.length
 refine call_reversed_list pp.isList ?_
 have I2:Inv X pins σ H1 {s1 with heap:=s1.heap.push (revObj l ((hX.toArray.size:Int)-1))}:=I1.kept (t':=s1.toks) fun b o e=>Heap.get?_push_of_some _ e
 have st:(s1.heap.push (revObj l ((hX.toArray.size:Int)-1))).IsRevIter s1.heap.objs.size l ((xs.length:Int)-1-((0:Nat):Int)):=by
   have e1:(xs.length:Int)-1-((0:Nat):Int)=(hX.toArray.size:Int)-1:=by rw[hl];simp
   rw[e1]
   exact⟨_,Heap.get?_push_size _ rfl,rfl,rfl⟩
 refine wpAny_pyIter_revIter st ?_
 refine⟨s1.heap.objs.size,[s1.heap.objs.size],_,_,H1,rfl,I2,Jk l _ xs.length,st,fun b hb=>?_,q⟩
 have e:b=s1.heap.objs.size:=by simpa using hb
 subst e
 exact I1.yH (UU _) (I1.iG.fresh (UU _))
theorem Lh{K:PySem.W.Frag}{a:Addr}{xs:List V}{g:TG}{tb:TS}{D:Ends}{σ:St}{H:Hp}(Pv:Nat→St→Hp→Prop)(h0:Pv 0 σ H)(hl:∀i σ H,i≤xs.length→Pv i σ H→hV K H a xs)
   (hs:∀i x σ H,xs.reverse[i]?=some x→Pv i σ H→g x σ H fun σ2 H2=>tb {D with nx:=Pv (i+1),ct:=Pv (i+1),bk:=D.nx} σ2 H2) (hd:∀σ H,Pv xs.length σ H→D.nx σ H) :
   ∃W:Nat→Nat→St→Hp→Prop,(∃m,W 0 m σ H)∧∀i m σ H,W i m σ H→
     ((Jj K a xs.length).stop i H∧D.nx σ H)∨((Jj K a xs.length).go i H∧∃N:St→Hp→Prop,(∀σ' H',N σ' H'→∃m',m'<m∧W (i+1) m' σ' H')∧∀x H',(Jj K a xs.length).Iu i H x H'→g x σ H' fun σ2 H2=>tb {D with nx:=N,ct:=N,bk:=D.nx} σ2 H2):=by
 refine⟨fun i m σ H=>m=xs.length-i∧i≤xs.length∧Pv i σ H,⟨xs.length,by simp,aaD _,h0⟩,?_⟩
 rintro i m σ H ⟨rfl,hi,p⟩
 have q:=hl i σ H hi p
 by_cases lu:i<xs.length
 · refine .inr ⟨⟨lu,xs,q,rfl⟩,Pv (i+1),fun σ' H' p'=>⟨xs.length-(i+1),by omega,rfl,lu,p'⟩,fun x H' y=>?_⟩
   obtain⟨e,y⟩:=y
   subst e
   refine hs i x σ _ ?_ p
   rw[List.getElem?_reverse lu]
   exact y xs q
 · have e:i=xs.length:=by omega
   subst e
   exact .inl ⟨rfl,hd σ H p⟩
theorem Jl{prog:Program}{w:World}{A:Around}{E:Value→Shared→Prop}{s:Shared}{r:Addr}{Q:Bool→Shared→Prop}(hT:s.TypeIs (.ref r) "list_reverseiterator")(h:Q false s):wpAny (model prog w) A (Builtin.List.listLengthHint (.ref r)) Q E s:=by
 have f1:typeLookup (.type "list_reverseiterator") "__len__"=pure none:=by rw[typeLookup_type,builtinLookup_eq_fast];kernel_rfl
 have f2:typeLookup (.type "list_reverseiterator") "__length_hint__"=pure (some (.builtin "list_reverseiterator.__length_hint__")):=by rw[typeLookup_type,builtinLookup_eq_fast];kernel_rfl
 unfold Builtin.List.listLengthHint
 refine wpAny_bind (wpAny_specialOf hT f1 ?_)
 wp_delta
 refine wpAny_ite_split (fun GV=>absurd GV (by decide)) (fun _=>?_)
 refine wpAny_ite_split (fun GV=>absurd GV (by decide)) (fun _=>?_)
 refine wpAny_bind (wpAny_specialOf hT f2 ?_)
 generalize Tg:("list_reverseiterator.__length_hint__":String)=id0
 wp_delta
 rw[show splitId id0=some ("list_reverseiterator","__length_hint__") from by subst Tg;decide+kernel]
 subst Tg
 refine wpAny_bind (wpAny_isInstance (T:="list_reverseiterator") (b:=true) hT (by rw[isSubtype_type];kernel_rfl) ?_)
 refine wpAny_ite_split (fun GV=>absurd GV (by decide)) (fun _=>?_)
 refine wpAny_ite_split (fun _=>?_) (fun GV=>absurd (by decide+kernel) GV)
 refine wpAny_ite_split (fun GV=>absurd GV (by decide)) (fun _=>?_)
 exact wpAny_pure h
theorem Hq{prog:Program}{w:World}{A:Around}{E:Value→Shared→Prop}{s:Shared}{T:String}{r d:Addr}{n:Nat}{P:Nat→Value→Prop}{St:Nat→Heap→Prop}{Q:Value→Shared→Prop}
   (W:Walks prog w A.in1.in1 r [r,d] [r] n P St) (hT:∀h:Heap,St 0 h→∃o,h.get? r=some o∧o.cls=.type T) (hl:(Value.type T ==Value.type "list")=false) (ht:(Value.type T ==Value.type "tuple")=false)
   (hint:∀(A:Around)(E:Value→Shared→Prop)(s:Shared)(Q:Bool→Shared→Prop),St 0 s.heap→Q false s→wpAny (model prog w) A (Builtin.List.listLengthHint (.ref r)) Q E s)
   (self:∀(A:Around)(E:Value→Shared→Prop)(s:Shared)(Q:Value→Shared→Prop),St 0 s.heap→Q (.ref r) s→wpAny (model prog w) A (pyIter (.ref r)) Q E s)
   (hd:d<s.heap.objs.size) (st:St 0 s.heap) (hn:n≤sizeLine)
   (hQ:∀h' tk L5 c',(∀b o,b≠r→s.heap.get? b=some o→h'.get? b=some o)→h'.get? s.heap.objs.size=some {cls:=.type "list",dict:=none,data:=.seq L5 c',slots:=#[]}→ItemsOf P L5 n→Q (.ref s.heap.objs.size) {s with heap:=h',toks:=tk}) :
   wpAny (model prog w) A (call (.type "list") [.ref r]) Q E s:=by
 obtain⟨or,hor,hcr⟩:=hT _ st
 have AZ:r<s.heap.objs.size:=Heap.lt_size hor
 refine callType_codes (Q₁:=fun obj s₁=>obj=.ref s.heap.objs.size∧s₁={s with heap:=s.heap.push {cls:=.type "list",data:=.seq #[]}}) PySem.F.called_list (PySem.F.typeCall_list_1 _) PySem.F.entry_list_init
   (code_list_new _ ⟨rfl,rfl⟩) fun obj s₁ h₁=>?_
 obtain⟨rfl,rfl⟩:=h₁
 have hS:(s.heap.push {cls:=.type "list",data:=.seq #[]}).get? s.heap.objs.size=some {cls:=.type "list",data:=.seq #[]}:=Heap.get?_push_size _ rfl
 have VA:s.heap.objs.size≠r:=Nat.ne_of_gt AZ
 have Yr:s.heap.objs.size≠d:=Nat.ne_of_gt hd
 refine⟨⟨_,hS,rfl⟩,PySem.F.args_list_init_2 _ _,?_⟩
 show wpAny _ _ (do let old ←Builtin.List.listItems (.ref s.heap.objs.size);Builtin.List.listUpdate (.ref s.heap.objs.size) (fun _=>#[]);letGo old.toList.reverse;Builtin.List.listExtendWith (.ref s.heap.objs.size) (.ref r) .none) _ _ _
 refine wpAny_bind ?_
 unfold Builtin.List.listItems
 refine wpAny_bind (wpAny_seqItems hS rfl (wpAny_pure ?_))
 show wpAny _ _ (updateSeq s.heap.objs.size (fun _=>#[]) >>= fun _=>letGo (#[]:Array Value).toList.reverse >>= fun _=>Builtin.List.listExtendWith (.ref s.heap.objs.size) (.ref r) .none) _ _ _
 refine wpAny_bind (wpAny_updateSeq hS rfl ?_)
 have Th:=Heap.get?_update_self (Obj.mapSeq (fun _=>(#[]:Array Value))) hS rfl
 have Ti:∀b o,s.heap.get? b=some o→((s.heap.push {cls:=.type "list",data:=.seq #[]}).update s.heap.objs.size (Obj.mapSeq (fun _=>(#[]:Array Value)))).get? b=some o:=
   fun b o e=>(Heap.get?_update_other _ _ (Nat.ne_of_gt (Heap.lt_size e))).trans (Heap.get?_push_of_some _ e)
 refine wpAny_bind (wpAny_letGo ?_)
 generalize (s.heap.push {cls:=.type "list",data:=.seq #[]}).update s.heap.objs.size (Obj.mapSeq (fun _=>(#[]:Array Value)))=h2 at Th Ti
 have AV:St 0 h2:=W.frame 0 _ _ st fun b _ o e=>Ti b o e
 have key:∀(h:Heap)(c₁ tk:Nat),St 0 h→(∀b o,s.heap.get? b=some o→h.get? b=some o)→
     h.get? s.heap.objs.size=some {cls:=.type "list",data:=.seq #[] c₁}→codeAny (model prog w) A.in1 (.builtin "list.extend.loop" ⟨[.ref s.heap.objs.size,.ref r,.none],[]⟩)
       (fun r s'=>match r with|.ok (.ret v)=>v=.none∧Q (.ref s.heap.objs.size) s'|.ok _=>False|.error e=>E e s') {s with heap:=h,toks:=tk}:=by
   intro h c₁ tk zZ hk hS₁
   refine codeAny_extend_loopS W.toS hn s.heap.objs.size (by simp only [XU,abl,or_false,not_or];exact⟨VA,Yr⟩) .none n 0 _ #[] c₁ rfl (aaD _) zZ hS₁ (ItemsOf.nil _) fun s' L5 c' hm hS' vH=>?_
   rw[Moved.eq_with hm]
   refine⟨rfl,hQ s'.heap s'.toks L5 c' (fun b o hb e=>hm.heap b o (fun A1=>?_) (hk b o e)) hS' vH⟩
   rcases XU.mp A1 with e'|A1
   · exact absurd (Heap.lt_size e) (by rw[e'];exact aa8 _)
   · exact hb (UP.mp A1)
 unfold Builtin.List.listExtendWith
 refine wpAny_bind (wpAny_typeOf (T:=T) (hT _ AV) ?_)
 have h1:Builtin.List.listSameRef (.ref s.heap.objs.size) (.ref r)=false:=by simp[Builtin.List.listSameRef,VA]
 simp only [h1,hl,ht,Bool.or_false,aaV,if_false]
 refine wpAny_bind (self _ _ _ _ AV ?_)
 refine wpAny_bind (wpAny_holding (hint _ _ _ _ AV ?_))
 refine wpAny_ite_split (fun _=>?_) (fun _=>wpAny_pure ⟨plainId_quiet PySem.F.plain_extend_loop _,key _ _ _ AV Ti Th⟩)
 refine wpAny_bind (wpAny_rule ?_)
 refine wpAny_bind ?_
 show wpAny _ _ (updateSeq s.heap.objs.size (·.push .none) >>= fun _=>updateSeq s.heap.objs.size (·.pop)) _ _ _
 refine wpAny_bind (wpAny_updateSeq Th rfl ?_)
 have Ys:=Heap.get?_update_self (Obj.mapSeq (·.push Value.none)) Th rfl
 refine wpAny_updateSeq (hz:=by seq_fits) Ys rfl ?_
 have hS₄:=Heap.get?_update_self (Obj.mapSeq (·.pop)) Ys rfl
 have Ry:∀b o,b≠s.heap.objs.size→h2.get? b=some o→((h2.update s.heap.objs.size (Obj.mapSeq (·.push Value.none))).update s.heap.objs.size (Obj.mapSeq (·.pop))).get? b=some o:=fun b o hb e=>
   (Heap.get?_update_other _ _ (Ne.symm hb)).trans ((Heap.get?_update_other _ _ (Ne.symm hb)).trans e)
 refine wpAny_pure ⟨plainId_quiet PySem.F.plain_extend_loop _,key _ _ _ (W.frame 0 _ _ AV fun b hb o e=>Ry b o (fun z=>?_) e) (fun b o e=>Ry b o (aaM (Heap.lt_size e)) (Ti b o e)) hS₄⟩
 subst z
 simp only [XU,abl,or_false] at hb
 rcases hb with z|z
 · exact VA z
 · exact Yr z
def Jm(K:PySem.W.Frag)(ta:TA):TE:=fun σ H Q=>ta σ H fun vs H1=>∃a xs,vs=[.ref a]∧hV K H1 a xs∧∀p,H1 p=none→Q (.ref p) (upd H1 p (.lst xs.reverse))
theorem Fh{a:Expr}{ta:TA}{p1 p2 VB L6:Pos}(hc:X.calm=true)(Pp:Gl X "list")(VC:X.mg "list"=none)(hg:Gl X "reversed")(hm:X.mg "reversed"=none)(ha:PA X [a] ta)(hs:starEach [a] X.env=[(false,eval a X.env)]:=by rfl)
   (VD:starEach [.Call (.Name "reversed" p2) [a] [] L6] X.env=[(false,eval (.Call (.Name "reversed" p2) [a] [] L6) X.env)]:=by rfl):PE X (.Call (.Name "list" p1) [.Call (.Name "reversed" p2) [a] [] L6] [] VB) (Jm X.K ta):=by
 intro pins s σ H Q I h
 refine Call_ (oI I Pp VC boot_list (aaP ?_ VD rfl))
 rw[VD]
 refine Calls.spliced_cons ?_
 refine Call_ (oI I hg hm boot_reversed (aaP (iY (ha L6 pins s σ H _ I h) fun us s1 ⟨vs,H1,I1,r1,q1⟩=>?_) hs rfl))
 obtain⟨l,xs,rfl,hq,q⟩:=q1
 obtain⟨u,rfl,ru⟩:=vals1 r1
 cases (show u=Value.ref l from ru)
 obtain⟨hX,rv,pp,hz⟩:=I1.list hq
 have hl:=rv.length
 refine call_reversed_list pp.isList (Calls.spliced_nil ?_)
 have lu:l<s1.heap.objs.size:=let ⟨o,ho,_⟩:=pp.isList;Heap.lt_size ho
 have hL:(s1.heap.push (revObj l ((hX.toArray.size:Int)-1))).IsList l hX.toArray:=pp.isList.at fun o e=>Heap.get?_push_of_some _ e
 refine Hq (s:={s1 with heap:=s1.heap.push (revObj l ((hX.toArray.size:Int)-1))}) (T:="list_reverseiterator") (d:=l) (n:=hX.toArray.size) (Walks.listRev (prog:=X.prog) (w:=X.w) (A:=X.A.in1.in1) (show X.A.in1.in1.handled=none from I.ok.hd hc) s1.heap.objs.size l (aaM lu) hX.toArray) (fun h ⟨_,⟨o,ho,BG,_⟩,_⟩=>⟨o,ho,BG⟩) (by decide) (by decide)
   (fun A E s Q ⟨_,⟨o,ho,BG,_⟩,_⟩ hq=>Jl ⟨o,ho,BG⟩ hq) (fun A E s Q ⟨_,x,_⟩ hq=>wpAny_pyIter_revIter x hq) (aaw lu (by show s1.heap.objs.size≤(s1.heap.push _).objs.size;rw[Heap.size_push];exact Nat.le_succ _))
   ⟨aaD _,by
                      have e:(hX.toArray.size:Int)-1-((0:Nat):Int)=(hX.toArray.size:Int)-1:=by omega
                      rw[e];exact⟨_,Heap.get?_push_size _ rfl,rfl,rfl⟩,hL⟩ (by rw[aae,←hl];exact hz) fun h' tk acc c hk hS vH=>?_
 have hf:H1 (s1.heap.push (revObj l ((hX.toArray.size:Int)-1))).objs.size=none:=I1.iG.fresh (by rw[Heap.size_push];omega)
 have rel:Vals xs.reverse acc.toList:=by
   have hsz:acc.toList.length=acc.size:=aa1
   refine o8 (by rw[aa7,hsz,vH.1,aae,hl]) fun i x y hx hy=>?_
   have hi:i<xs.length:=by have:=(RL.mp hx).1;rwa [aa7] at this
   have z:=vH.2 i y (by rw[←aaY];exact hy)
   rw[List.getElem?_reverse hi] at hx
   obtain⟨w,hw,AX⟩:=rv.get hx
   rw[aae,←hl] at z
   have z2:hX[xs.length-1-i]?=some y:=by simpa using z
   rw[hw] at z2
   cases z2
   exact AX
 refine⟨.ref _,upd H1 _ (.lst xs.reverse),I1.laid (t':=tk) (h':=h') (fun b o e=>hk b o (aaM (Heap.lt_size e)) (Heap.get?_push_of_some _ e)) (by rw[Heap.size_push];omega) ?_,rfl,q _ hf⟩
 exact⟨by rw[aa7];exact hz,acc.toList,c,rel,by rw[Array.toArray_toList];exact hS⟩
end
open PySem PySem.Builtin.Str
theorem subAt_one(s:Str)(c i:Nat):subAt s ⟨#[c]⟩ i=decide (s.cps[i]?=some c):=by
 unfold subAt
 show(s.cps.extract i (i+1) ==#[c])=_
 rw[abe]
 simp only [beq_iff_eq,decide_eq_true_eq]
 by_cases h:i<s.cps.size
 · have e:s.cps.extract i (i+1)=#[s.cps[i]]:=by
     apply Array.ext
     · simp;omega
     · intro j h1 h2
       simp at h2
       subst h2
       simp
   rw[e,aaO h]
   constructor
   · intro z;simpa using z
   · intro z;simpa using z
 · have e:s.cps.extract i (i+1)=#[]:=by
     apply Array.ext
     · simp;omega
     · intro j h1 h2;simp at h2
   rw[e,Array.getElem?_eq_none (by omega)]
   simp
def n_(s sub:Str)(hi:Nat)(p:Array Nat×Nat)(i:Nat):Array Nat×Nat:=
 if(decide (p.1.size<1)&&decide (p.2≤i)&&decide (i+sub.length≤hi)&&subAt s sub i)=true then(p.1.push i,i+sub.length) else p
theorem Jn(s sub:Str)(lo hi:Nat):occurrences s sub lo hi 1=((List.range' lo (hi+1-lo)).foldl (n_ s sub hi) (#[],lo)).1.toList:=by
 unfold occurrences
 simp only [Std.Legacy.Range.forIn_eq_forIn_range',Std.Legacy.Range.size]
 rw[show(hi+1-lo+1-1)/1=hi+1-lo by omega]
 generalize List.range' lo (hi+1-lo)=l
 generalize ((#[],lo):Array Nat×Nat)=p
 show Id.run (forIn l p _ >>= _)=_
 have go:∀(l:List Nat)(p:Array Nat×Nat),(forIn l p (fun(i:Nat) (q:Array Nat×Nat)=>(if(decide (q.fst.size<1)&&decide (q.snd≤i)&&decide (i+sub.length≤hi)&&subAt s sub i)=true then
     pure (ForInStep.yield (q.fst.push i,i+sub.length)) else pure (ForInStep.yield (q.fst,q.snd)):Id (ForInStep (Array Nat×Nat)))):Id (Array Nat×Nat))=l.foldl (n_ s sub hi) p:=by
   intro l
   induction l with
   | nil=>intro p;rfl
   | cons a r ih=>
     intro p
     rw[List.forIn_cons,List.foldl_cons]
     unfold n_
     split
     · exact ih _
     · exact ih _
 rw[go]
 rfl
theorem Li(s:Str)(c:Nat):(occurrences s ⟨#[c]⟩ 0 s.length 1).isEmpty=decide (c∉s.cps.toList):=by
 rw[Jn]
 have inv:∀(l:List Nat)(p:Array Nat×Nat),(p.1=#[]→p.2=0)→((l.foldl (n_ s ⟨#[c]⟩ s.length) p).1=#[]↔p.1=#[]∧∀i∈l,¬(i+1≤s.length∧s.cps[i]?=some c)):=by
   intro l
   induction l with
   | nil=>intro p _;simp
   | cons a r ih=>
     intro p hp
     rw[List.foldl_cons]
     by_cases hc:(decide (p.1.size<1)&&decide (p.2≤a)&&decide (a+(⟨#[c]⟩:Str).length≤s.length)&&subAt s ⟨#[c]⟩ a)=true
     · have e:n_ s ⟨#[c]⟩ s.length p a=(p.1.push a,a+(⟨#[c]⟩:Str).length):=aap hc
       rw[e,ih _ (fun z=>by simp at z)]
       simp only [aaX,decide_eq_true_eq,subAt_one] at hc
       constructor
       · rintro⟨z,_⟩;simp at z
       · rintro⟨z,h⟩
         exact absurd ⟨hc.1.2,hc.2⟩ (h a aan)
     · have e:n_ s ⟨#[c]⟩ s.length p a=p:=aak hc
       rw[e,ih _ hp]
       constructor
       · rintro⟨z,h⟩
         refine⟨z,fun i hi=>?_⟩
         rcases XU.mp hi with rfl|hi
         · intro ⟨h1,h2⟩
           apply hc
           simp only [aaX,decide_eq_true_eq,subAt_one]
           exact⟨⟨⟨by rw[z];decide,by rw[hp z];exact aaD _⟩,h1⟩,h2⟩
         · exact h i hi
       · rintro⟨z,h⟩
         exact⟨z,fun i hi=>h i (aag _ hi)⟩
 have h:=inv (List.range' 0 (s.length+1-0)) (#[],0) (fun _=>rfl)
 rw[abe,decide_eq_true_eq,List.isEmpty_iff]
 rw[show(List.foldl (n_ s ⟨#[c]⟩ s.length) (#[],0) (List.range' 0 (s.length+1-0))).1.toList=[]↔(List.foldl (n_ s ⟨#[c]⟩ s.length) (#[],0) (List.range' 0 (s.length+1-0))).1=#[] from ⟨fun z=>by simpa using z,fun z=>by rw[z]⟩,h]
 constructor
 · rintro⟨_,h⟩ hm
   obtain⟨i,hi,e⟩:=List.mem_iff_getElem.mp hm
   have AY:i<s.cps.size:=by simpa using hi
   refine h i (by rw[List.mem_range'_1];show 0≤i∧i<0+(s.cps.size+1-0);omega) ⟨AY,?_⟩
   rw[aaO AY]
   simpa using e
 · intro hn
   refine⟨rfl,fun i _ ⟨_,h2⟩=>hn ?_⟩
   exact VI (i:=i) (by rw[aaY];exact h2)
section
variable{prog:Program}{w:World}{A:Around}{E:Value→Shared→Prop}{s:Shared}
end
section
variable{X:Cx}
end
def vW(h:Heap)(d:Addr)(es:Array DictEntry)(ep:Nat):Prop:=∃o,h.get? d=some o∧o.ExactDict∧o.data=.dict es ep
section
variable{P:Program}{w:World}{A:Around}{E:Value→Shared→Prop}{s:Shared}{d it:Addr}{es:Array DictEntry}{ep i:Nat}
theorem vW.ty(x:vW s.heap d es ep):s.TypeIs (.ref d) "dict":=by obtain⟨o,e,c,_⟩:=x;exact⟨o,e,c.1⟩
theorem vW.at{h h':Heap}(x:vW h d es ep)(k:∀o,h.get? d=some o→h'.get? d=some o):vW h' d es ep:=by obtain⟨o,e,r⟩:=x;exact⟨o,k o e,r⟩
theorem DK{Q:Value→Shared→Prop}(lo:(d ==sysModules)=false)(x:vW s.heap d es ep)
   (k:Q (.ref s.heap.objs.size) {s with heap:=s.heap.push {cls:=.type "dict_keyiterator",data:=.fields #[.ref d,.int 0 0,.int es.size 0,.int ep 0]}}):wpAny (model P w) A (pyIter (.ref d)) Q E s:=by
 have ty:=x.ty
 obtain⟨o,e,c,dt⟩:=x
 refine wpAny_pyIter_slot ty F.slot_dict_iter (wpAny_call_entry F.slot_dict_iter ty F.entry_dict_iter ?z (F.args_dict_iter_1 _))
 case z=>
   unfold Builtin.«dict.__iter__» Builtin.Dict.dictSlotNone
   refine wpAny_bind (wpAny_bind (wpAny_notOrdered_dict ty (show wpAny _ _ (pure (Value.ref d)) _ _ s from wpAny_pure ?z)))
   case z=>
     show wpAny _ _ (Builtin.Dict.showsAll d >>= _) _ _ s
     unfold Builtin.Dict.showsAll
     rw[lo,aak (fun z=>by cases z)]
     refine wpAny_bind (wpAny_pure (wpAny_bind (wpAny_dictEntries e dt (wpAny_bind (wpAny_dictEpoch e dt (wpAny_bind (wpAny_newObj_type (wpAny_pure ?z))))))))
     case z=>exact⟨_,rfl,"dict_keyiterator",_,⟨_,Heap.get?_push_size _ rfl,rfl⟩,F.slot_dict_keyiterator_next.lookup,by simpa[rawInt] using k⟩
theorem DL{Q:Option Value→Shared→Prop}{y:DictEntry}(x:s.heap.IsKeyIter it d i es.size ep)(r:vW s.heap d es ep)(hy:es[i]?=some y)
   (k:∀h',h'.IsKeyIter it d (i+1) es.size ep→Heap.SameBut it s.heap h'→Q (some y.key) {s with heap:=h'}):wpAny (model P w) A (pyNext (.ref it)) Q E s:=by
 have ty:=x.typeIs
 obtain⟨o,e,c,dt⟩:=id x
 obtain⟨o2,e2,c2,Rz⟩:=r
 have OM:Builtin.Dict_items.ownsTuple "dict_keyiterator"=false:=by decide
 unfold pyNext
 refine wpAny_bind (wpAny_attempt (wpAny_callSpecial?_slot (name:=Str.ofString "__next__") ty F.slot_dict_keyiterator_next (wpAny_call_entry F.slot_dict_keyiterator_next ty F.entry_dict_keyiterator_next ?z (F.args_dict_keyiterator_next_1 _))))
 case z=>
   refine wpAny_bind (wpAny_pure (wpAny_bind (wpAny_bind ?z)))
   case z=>
     first|refine wpAny_bind (wpAny_typeNameOfWhole_keyiter ty (wpAny_pure (wpAny_bind (wpAny_fieldsOf e dt ?z))))|refine wpAny_bind (wpAny_typeNameOf_keyiter ty (wpAny_pure (wpAny_bind (wpAny_fieldsOf e dt ?z))))
     case z=>
       simp only [OM,aaV,if_false]
       show wpAny _ _ (if(Value.ref d ==Value.none)=true then _ else _) _ _ s
       rw[aak (fun z=>by cases z)]
       refine wpAny_bind (wpAny_pure (wpAny_bind (wpAny_dictEntries e2 Rz ?z)))
       case z=>
         rw[aak (by simp)]
         refine wpAny_bind (wpAny_pure (wpAny_bind (wpAny_dictEpoch e2 Rz ?z)))
         case z=>
           rw[aak (by simp)]
           refine wpAny_pure ?z
           case z=>
             simp only [show ¬((i:Int)<0) by omega,if_false,abq,hy]
             refine wpAny_bind ?z
             case z=>
               first|refine wpAny_bind (wpAny_typeNameOfWhole_keyiter ty (wpAny_pure (wpAny_bind (wpAny_isOneOf_keyiter ty ?z))))|refine wpAny_bind (wpAny_typeNameOf_keyiter ty (wpAny_pure (wpAny_bind (wpAny_isOneOf_keyiter ty ?z))))
               case z=>
                 show wpAny _ _ (setField (.ref it) 1 (rawInt ((i:Int)+1)) >>= _) _ _ s
                 have n:(s.heap.update it (Obj.mapFields (·.setIfInBounds 1 (rawInt ((i:Int)+1))))).IsKeyIter it d (i+1) es.size ep:=
                   ⟨_,Heap.get?_update_self _ e (Obj.isFreed_of_fields (Obj.data_mapFields dt _)),(Obj.cls_mapFields ..).trans c,by rw[Obj.data_mapFields dt];simp[rawInt]⟩
                 refine wpAny_bind (wpAny_setField e dt (by simp) (wpAny_bind (wpAny_holding (wpAny_bind (wpAny_isOneOf_keyiter (s:={s with heap:=s.heap.update it (Obj.mapFields (·.setIfInBounds 1 (rawInt ((i:Int)+1))))}) n.typeIs ?z)))))
                 case z=>
                   show wpAny _ _ (pure y.key) _ _ _
                   exact wpAny_pure (wpAny_pure ⟨_,rfl,wpAny_pure (k _ n (Heap.SameBut.update ..))⟩)
theorem DN{Q:Option Value→Shared→Prop}(hh:A.handled=none)(x:s.heap.IsKeyIter it d i es.size ep)(r:vW s.heap d es ep)(hy:es.size≤i)
   (k:∀h',Heap.ExtBut it s.heap h'→Q none {s with heap:=h'}):wpAny (model P w) A (pyNext (.ref it)) Q E s:=by
 have ty:=x.typeIs
 obtain⟨o,e,c,dt⟩:=id x
 obtain⟨o2,e2,c2,Rz⟩:=r
 have OM:Builtin.Dict_items.ownsTuple "dict_keyiterator"=false:=by decide
 unfold pyNext
 refine wpAny_bind (wpAny_attempt (wpAny_callSpecial?_slot (name:=Str.ofString "__next__") ty F.slot_dict_keyiterator_next (wpAny_call_entry F.slot_dict_keyiterator_next ty F.entry_dict_keyiterator_next ?z (F.args_dict_keyiterator_next_1 _))))
 case z=>
   refine wpAny_bind (wpAny_pure (wpAny_bind (wpAny_bind ?z)))
   case z=>
     first|refine wpAny_bind (wpAny_typeNameOfWhole_keyiter ty (wpAny_pure (wpAny_bind (wpAny_fieldsOf e dt ?z))))|refine wpAny_bind (wpAny_typeNameOf_keyiter ty (wpAny_pure (wpAny_bind (wpAny_fieldsOf e dt ?z))))
     case z=>
       simp only [OM,aaV,if_false]
       show wpAny _ _ (if(Value.ref d ==Value.none)=true then _ else _) _ _ s
       rw[aak (fun z=>by cases z)]
       refine wpAny_bind (wpAny_pure (wpAny_bind (wpAny_dictEntries e2 Rz ?z)))
       case z=>
         rw[aak (by simp)]
         refine wpAny_bind (wpAny_pure (wpAny_bind (wpAny_dictEpoch e2 Rz ?z)))
         case z=>
           rw[aak (by simp)]
           refine wpAny_pure ?z
           case z=>
             simp only [show ¬((i:Int)<0) by omega,if_false,abq,Array.getElem?_eq_none hy]
             refine wpAny_bind ?z
             case z=>
               first|refine wpAny_bind (wpAny_typeNameOfWhole_keyiter ty (wpAny_pure ?z))|refine wpAny_bind (wpAny_typeNameOf_keyiter ty (wpAny_pure ?z))
               case z=>
                 show wpAny _ _ (setField (.ref it) 0 .none >>= _) _ _ s
                 refine wpAny_bind (wpAny_setField e dt (by simp) ?z)
                 case z=>
                   show wpAny _ _ (newExc (.type "StopIteration") [] >>= _) _ _ _
                   refine wpAny_bind ?z
                   case z=>
                     simp only [newExc,newTuple]
                     refine wpAny_bind (wpAny_newObj_type (wpAny_bind (m:=firstArgMember _ _) (wpAny_of_eq (a:=Value.none) (by first|rfl|(simp only [firstArgMember];rfl)) (wpAny_newObj_type ?z (by size_fits)))) (by size_fits))
                     case z=>
                       simp only [raiseNew]
                       refine wpAny_bind (wpAny_handled ?z)
                       case z=>
                         rw[show A.in1.handled=none from hh]
                         refine wpAny_bind (wpAny_pure (wpAny_throw ?z))
                         case z=>exact wpAny_bind (wpAny_isInstance (T:="StopIteration") (b:=true) ⟨_,Heap.get?_push_size _ rfl,rfl⟩ isSubtype_stop <| wpAny_pure (k _ (((Heap.SameBut.update ..).extBut.push _).push _)))
end
section
variable{X:Cx}{pins:List (Addr×Obj)}{σ:St}{H:Hp}{s:Shared}{tg:Expr}
def Hr(d:Addr)(o:Obj)(kvs:List (List Key×V)):It:=
 ⟨fun i H=>H d=some (.nQ o (.dT kvs))∧i<kvs.length,fun i H x H'=>H'=H∧∃k v b,kvs[i]?=some (k,v)∧x=.ref b∧H b=some (.tup (k.map kV)),fun i H=>H d=some (.nQ o (.dT kvs))∧kvs.length≤i⟩
theorem kt_at{kvs:List (List Key×V)}{xs:List (List Key×Addr×Value)}(r:KT H kvs xs):∀{i:Nat} {k:List Key} {b:Addr} {u:Value},xs[i]?=some (k,b,u)→∃v,kvs[i]?=some (k,v)∧H b=some (.tup (k.map kV))∧RelV v u:=by
 induction r with
 | nil=>intro i k b u e;simp at e
 | @cons p q ps qs f t ih=>
   intro i k b u e
   cases i with
   | zero=>
     simp at e
     subst e
     exact⟨p.2,congrArg some (Prod.ext f.1 rfl),by rw[←show p.1=k from f.1];exact f.2.1,f.2.2⟩
   | succ i=>
     obtain⟨v,h1,h2⟩:=ih (by simpa using e)
     exact⟨v,by simpa using h1,h2⟩
theorem y8{P:Program}{w:World}{h:Heap}{d:Addr}{kvs:List (List Key×V)}(q:i9 P w H h d (.dT kvs)):(d ==sysModules)=false∧kvs.length≤sizeLine∧∃(es:Array DictEntry)(ep:Nat),vW h d es ep∧es.size=kvs.length∧
   (∀(i:Nat)(y:DictEntry),es[i]?=some y→∃k v b,kvs[i]?=some (k,v)∧y.key=.ref b∧H b=some (.tup (k.map kV))∧RelV v y.val):=by
 obtain⟨hz,hs,xs,r,o,es,ep,ho,hc,hd,he,hn⟩:=q
 have sz:=size_of_entries he
 refine⟨hs,hz,es,ep,⟨o,ho,hc,hd⟩,by rw[sz];exact(Paired.length r).symm,fun i y hy=>?_⟩
 rw[entry_at he i] at hy
 obtain⟨⟨k,b,u⟩,hx,e⟩:=aaA.mp hy
 obtain⟨v,h1,h2,h3⟩:=kt_at r hx
 subst e
 exact⟨k,v,b,h1,rfl,h2,h3⟩
theorem Fi{P:Program}{w:World}{K:PySem.W.Frag}(d it:Addr)(o:Obj)(es:Array DictEntry)(ep:Nat)(kvs:List (List Key×V))(Ki:o.data=.dict es ep)(hsz:es.size=kvs.length):Turn P w K tg (Hr d o kvs) [it] it (fun i h=>h.IsKeyIter it d i es.size ep) where
 mem:=by simp
 obj:=fun i h st b hb=>by
   have e:b=it:=by simpa using hb
   subst e
   obtain⟨o,e,c,d⟩:=st
   exact⟨o,e,fun v z=>by rw[d] at z;cases z⟩
 keep:=fun i h h' st k=>st.at fun o e=>k it (by simp) o e
 item:=by
   intro X hP hw hK hc i pins s σ H E I hf st hg
   subst hP hw hK
   obtain⟨hd,hi⟩:=hg
   obtain⟨ho,q⟩:=(show i9 X.prog X.w H s.heap d (.nQ o (.dT kvs)) from I.iG d _ hd)
   obtain⟨_,_,Pn,My,raw,sz,Pq⟩:=y8 q
   obtain⟨o',nX,h2,h3⟩:=id raw
   rw[ho] at nX;cases nX
   rw[Ki] at h3;cases h3
   have AY:i<es.size:=by omega
   obtain⟨k,v,b,e1,e2,e3,_⟩:=Pq i es[i] (aaO AY)
   obtain⟨f0,f1,f2,f3,f4,f5⟩:=hf it (by simp)
   refine DL st raw (aaO AY) fun h' AU sb=>?_
   have I1:Inv X pins σ H {s with heap:=h'}:=I.turned (t':=s.toks) (fun b o hb e=>(sb.2 b hb).trans e) f0 f1 f3 f4 f5
   obtain⟨o',e,c,dd⟩:=id AU
   exact⟨_,rfl,yI (s:={s with heap:=h'}) e c dd (by decide) ⟨.ref b,H,I1,e2,⟨rfl,k,v,b,e1,rfl,e3⟩,AU,fun b hb=>(hf b hb).1⟩⟩
 done:=by
   intro X hP hw hK hc i pins s σ H E I hf st hg
   subst hP hw hK
   obtain⟨hd,hi⟩:=hg
   obtain⟨ho,q⟩:=(show i9 X.prog X.w H s.heap d (.nQ o (.dT kvs)) from I.iG d _ hd)
   obtain⟨_,_,Pn,My,raw,sz,Pq⟩:=y8 q
   obtain⟨o',nX,h2,h3⟩:=id raw
   rw[ho] at nX;cases nX
   rw[Ki] at h3;cases h3
   obtain⟨f0,f1,f2,f3,f4,f5⟩:=hf it (by simp)
   exact DN (I.ok.hd hc) st raw (by omega) fun h' eb=>⟨rfl,I.turned (t':=s.toks) (fun b o hb e=>eb b o hb e) f0 f1 f3 f4 f5⟩
 self:=fun _ _ _ _ _ st h=>wpAny_pyIter_keyiter st h
def NF(X:Cx)(td:TE):TI:=fun σ H R=>td σ H fun x H1=>∃d kvs,x=.ref d∧H1 d=some (.dT kvs)∧∀o,AE X d→R (Hr d o kvs) (upd H1 d (.nQ o (.dT kvs)))
theorem y9{l:Expr}{td:TE}(hl:PE X l td):PI X tg l (NF X td):=by
 intro pins s σ H R I h
 refine iY (hl pins s σ H _ I h) fun v s1 ⟨x,H1,I1,r1,q1⟩=>?_
 obtain⟨d,kvs,e,hd,q⟩:=q1
 subst e
 cases r1
 have nf:=I1.Ny hd True.intro
 obtain⟨o,ho,I2⟩:=I1.frozen hd True.intro
 obtain⟨hs,_,es,ep,raw,sz,_⟩:=y8 (I1.iG d _ hd)
 obtain⟨o',nX,h2,h3⟩:=id raw
 rw[ho] at nX;cases nX
 refine DK hs raw ?_
 refine⟨s1.heap.objs.size,[s1.heap.objs.size],_,_,_,rfl,I2.kept (t':=s1.toks) fun b o e=>Heap.get?_push_of_some _ e,Fi d _ o es ep kvs h3 sz,⟨_,Heap.get?_push_size _ rfl,rfl,rfl⟩,fun b hb=>?_,q o nf⟩
 have e:b=s1.heap.objs.size:=by simpa using hb
 subst e
 exact I2.yH (UU _) (I2.iG.fresh (UU _))
theorem Bk{d:Addr}{o:Obj}{kvs:List (List Key×V)}{g:TG}{tb:TS}{D:Ends}{σ:St}{H:Hp}(Pv:Nat→St→Hp→Prop)(h0:Pv 0 σ H)(hl:∀i σ H,Pv i σ H→H d=some (.nQ o (.dT kvs)))
   (hs:∀i k v b σ H,kvs[i]?=some (k,v)→H b=some (.tup (k.map kV))→Pv i σ H→g (.ref b) σ H fun σ2 H2=>tb {D with nx:=Pv (i+1),ct:=Pv (i+1),bk:=D.nx} σ2 H2) (hd:∀σ H,Pv kvs.length σ H→D.nx σ H) :
   ∃W:Nat→Nat→St→Hp→Prop,(∃m,W 0 m σ H)∧∀i m σ H,W i m σ H→
     ((Hr d o kvs).stop i H∧D.nx σ H)∨((Hr d o kvs).go i H∧∃N:St→Hp→Prop,(∀σ' H',N σ' H'→∃m',m'<m∧W (i+1) m' σ' H')∧∀x H',(Hr d o kvs).Iu i H x H'→g x σ H' fun σ2 H2=>tb {D with nx:=N,ct:=N,bk:=D.nx} σ2 H2):=by
 refine⟨fun i m σ H=>m=kvs.length-i∧i≤kvs.length∧Pv i σ H,⟨kvs.length,by simp,aaD _,h0⟩,?_⟩
 rintro i m σ H ⟨rfl,hi,p⟩
 have q:=hl i σ H p
 by_cases lu:i<kvs.length
 · refine .inr ⟨⟨q,lu⟩,Pv (i+1),fun σ' H' p'=>⟨kvs.length-(i+1),by omega,rfl,lu,p'⟩,fun x H' y=>?_⟩
   obtain⟨e,k,v,b,y,rfl,hb⟩:=y
   subst e
   exact hs i k v b σ _ y hb p
 · have e:i=kvs.length:=by omega
   subst e
   exact .inl ⟨⟨q,UU _⟩,hd σ H p⟩
theorem Jo{d:Addr}{o:Obj}{kvs:List (List Key×V)}{g:TG}{tt:TT}{te:TE}{Q:List V→Hp→Prop}{σ:St}{H:Hp}(hn:kvs.length≤sizeLine)(Pv:Nat→List V→St→Hp→Prop)(h0:Pv 0 [] σ H)(hl:∀i ys σ H,Pv i ys σ H→H d=some (.nQ o (.dT kvs))∧ys.length≤i)
   (hs:∀i k v b ys σ H,kvs[i]?=some (k,v)→H b=some (.tup (k.map kV))→Pv i ys σ H→g (.ref b) σ H fun σ2 H2=>tt σ2 H2 fun c H3=>if c=true then te σ2 H3 fun v H4=>Pv (i+1) (ys++[v]) σ2 H4 else Pv (i+1) ys σ2 H3)
   (hd:∀ys σ H,Pv kvs.length ys σ H→Q ys H):Hm g tt te (Hr d o kvs) Q σ H:=by
 refine⟨fun i m ys σ H=>m=kvs.length-i∧i≤kvs.length∧Pv i ys σ H,⟨kvs.length,by simp,aaD _,h0⟩,?_⟩
 rintro i m ys σ H ⟨rfl,hi,p⟩
 obtain⟨q,hy⟩:=hl i ys σ H p
 by_cases lu:i<kvs.length
 · refine .inr ⟨⟨q,lu⟩,by omega,Pv (i+1),fun Po σ' H' p'=>⟨kvs.length-(i+1),by omega,rfl,lu,p'⟩,fun x H' y=>?_⟩
   obtain⟨e,k,v,b,y,rfl,hb⟩:=y
   subst e
   exact hs i k v b ys σ _ y hb p
 · have e:i=kvs.length:=by omega
   subst e
   exact .inl ⟨⟨q,UU _⟩,by omega,hd ys σ H p⟩
end
section
variable{P:Program}{w:World}{d it:Addr}{es:Array DictEntry}{ep:Nat}
theorem Hs{A:Around}(hh:A.handled=none)(tO:d≠it):Walks P w A it [it,d] [it] es.size (fun i v=>∃y,es[i]?=some y∧v=y.key) (fun i h=>h.IsKeyIter it d i es.size ep∧vW h d es ep) where
 sub:=fun b hb=>by rw[UP.mp hb];exact aan
 frame:=fun i h h' ⟨a,b⟩ hk=>⟨a.at fun o e=>hk it aan o e,b.at fun o e=>hk d (by simp) o e⟩
 item:=fun i s Q E hi ⟨a,b⟩ hQ=>DL a b (aaO hi) fun h' a' sb=>hQ _ h' s.toks ⟨_,aaO hi,rfl⟩ ⟨a',b.at fun o e=>sb.extBut d o tO e⟩ fun b o hb e=>sb.extBut b o (fun z=>hb (by rw[z];exact UP.mpr rfl)) e
 done:=fun s Q E ⟨a,b⟩ hQ=>DN hh a b (UU _) fun h' eb=>hQ h' s.toks fun b o hb e=>eb b o (fun z=>hb (by rw[z];exact UP.mpr rfl)) e
 self:=fun i s Q E ⟨a,_⟩ hQ=>wpAny_pyIter_keyiter a hQ
theorem Lj(lo:(d ==sysModules)=false):PySem.W.KdlSrc P w "dict" d d es.size (fun i v=>∃y,es[i]?=some y∧v=y.key) (fun h=>vW h d es ep) where
 type:=fun s r=>r.ty
 there:=fun h ⟨o,e,_⟩=>⟨Heap.lt_size e,Heap.lt_size e⟩
 keep:=fun h h' r hk=>r.at fun o e=>hk d (.inl rfl) o e
 notList:=by decide
 notTuple:=by decide
 hint:=fun A E s Q r hq=>PySem.W.kdl_hint_dict r.ty hq
 iter:=fun A s hh r=>⟨_,_,(fun E Q hq=>DK lo r hq),Hs hh (by obtain⟨o,e,_⟩:=r;exact aaM (Heap.lt_size e)),⟨⟨_,Heap.get?_push_size _ rfl,rfl,rfl⟩,r.at fun o e=>Heap.get?_push_of_some _ e⟩⟩
end
section
variable{X:Cx}{pins:List (Addr×Obj)}{σ:St}{H:Hp}{s:Shared}
theorem xZ(hc:X.calm=true):uC X (.type "list") (fun xs H Q=>∃d kvs,xs=[V.ref d]∧H d=some (.dT kvs)∧∀p bs,H p=none→Paired (fun(kv:List Key×V) (b:Addr)=>H b=some (.tup (kv.1.map kV))) kvs bs→Q (.ref p) (upd H p (.lst (bs.map V.ref)))):=by
 intro pins s σ H xs us Q I r h
 obtain⟨d,kvs,rfl,hd,q⟩:=h
 obtain⟨u,rfl,ru⟩:=vals1 r
 cases (show u=Value.ref d from ru)
 obtain⟨hs,hz,es,ep,raw,sz,Pq⟩:=y8 (I.iG d _ hd)
 refine PySem.W.kdl_call (Lj hs) (I.ok.hd hc) raw (by omega) fun h' tk acc c hk hS vH=>?_
 have hf:H s.heap.objs.size=none:=I.iG.fresh (UU _)
 have hb:∀i:Nat,i<kvs.length→∃k v b,kvs[i]?=some (k,v)∧(es[i]?.map DictEntry.key)=some (Value.ref b)∧H b=some (.tup (k.map kV)):=fun i hi=>by
   have AY:i<es.size:=by omega
   obtain⟨k,v,b,e1,e2,e3,_⟩:=Pq i es[i] (aaO AY)
   exact⟨k,v,b,e1,by rw[aaO AY,abD,e2],e3⟩
 let adr:Value→Addr:=fun v=>match v with|.ref b=>b|_=>0
 let bs:List Addr:=es.toList.map fun y=>adr y.key
 have MF:bs.length=kvs.length:=by show(es.toList.map _).length=_;rw[RF,aa1];exact sz
 have Yt:∀(i:Nat)(b:Addr),bs[i]?=some b→∃k v,kvs[i]?=some (k,v)∧es[i]?.map DictEntry.key=some (Value.ref b)∧H b=some (.tup (k.map kV)):=fun i b e=>by
   have hi:i<kvs.length:=by rw[←MF];exact(RL.mp e).1
   obtain⟨k,v,b',e1,e2,e3⟩:=hb i hi
   have:bs[i]?=some b':=by
     show(es.toList.map _)[i]?=_
     rw[aah,aaY]
     obtain⟨y,ey,e4⟩:=aaA.mp e2
     rw[ey]
     show some (adr y.key)=_
     rw[e4]
   rw[this] at e
   cases e
   exact⟨k,v,e1,e2,e3⟩
 have rel:Vals (bs.map V.ref) acc.toList:=by
   refine o8 (by have e1:=vH.1;have e2:acc.toList.length=acc.size:=aa1;rw[RF,MF];omega) fun i a b ha hb=>?_
   rw[aah] at ha
   obtain⟨b',e,rfl⟩:=aaA.mp ha
   obtain⟨k,v,_,e2,_⟩:=Yt i b' e
   obtain⟨y,hy,hv⟩:=vH.2 i b (by rw[←aaY];exact hb)
   rw[hy,abD] at e2
   show b=.ref b'
   rw[hv,aat e2]
 refine⟨.ref s.heap.objs.size,upd H s.heap.objs.size (.lst (bs.map V.ref)),I.laid (t':=tk) hk (UU _) ?_,rfl,q _ bs hf (o8 MF.symm fun i a b ha hb=>?_)⟩
 · exact⟨by rw[RF,MF];exact hz,acc.toList,c,rel,by rw[Array.toArray_toList];exact hS⟩
 · obtain⟨k,v,e1,_,e3⟩:=Yt i b hb
   rw[e1] at ha
   cases ha
   exact e3
end
section
variable{P:Program}{w:World}{κ:Type}[DecidableEq κ]{knd:HeapKind P w κ}{A:Around}{E:Value→Shared→Prop}{s:Shared}{d a:Addr}{xs:List (κ×Addr×Value)}{k:κ}
theorem Jp{v:Value}{Q:Unit→Shared→Prop}(hu:knd.room A)(hk:knd.is s.heap k a)(m:s.heap.DictOfH knd d xs)(hz:xs.length≤sizeLine)
   (q:∀h',h'.DictOfH knd d (storedH xs k a v)→Heap.SameBut d s.heap h'→Q () {s with heap:=h'}):wpAny (model P w) A (dictSetHashed d (.ref a) (knd.hash k) v) Q E s:=by
 obtain⟨o,es,ep,ho,hc,hd,he,Pr,hn⟩:=m
 have sz:=size_of_entries he
 unfold dictSetHashed
 try with_reducible refine wpAny_holding ?_
 refine wpAny_bind (wpAny_dictFind_heap hu hk ho hd he Pr hn (fun no=>?_) fun j p hj=>?_)
 · have at0:=atKey_none_of_get no
   refine wpAny_bind (wpAny_rule (wpAny_updateDictKeys (hz:=by omega) ho hd (q _ ?_ (Heap.SameBut.update ..))))
   rw[storedH_new at0]
   refine⟨_,_,ep+1,Heap.get?_update_self _ ho (Obj.isFreed_of_dict (Obj.data_mapDictKeys hd _)),hc.mapDictKeys _,Obj.data_mapDictKeys hd _,by simp[he,entryOfKey],fun x hx=>?_,?_⟩
   · refine knd.keeps ?_ ho hd (Heap.SameBut.update ..)
     rcases aaa.mp hx with hx|hx
     · exact Pr x hx
     · rw[UP.mp hx];exact hk
   · rw[aam,aaU]
     exact⟨hn,by simp,fun x hx y hy z=>not_mem_keys_of_get no (by rw[UP.mp hy] at z;have z:x=k:=z;exact z▸hx)⟩
 · have at1:=atKey_of_get hn hj
   refine wpAny_bind (wpAny_rule (wpAny_bind (wpAny_updateDict ho hd (wpAny_point (q _ ?_ (Heap.SameBut.update ..))))))
   rw[storedH_old at1]
   refine⟨_,_,ep,Heap.get?_update_self _ ho (Obj.isFreed_of_dict (Obj.data_mapDict hd _)),hc.mapDict _,Obj.data_mapDict hd _,?_,fun x hx=>?_,by rw[keys_map_putAt];exact hn⟩
   · have z:=modify_map_putAt (entryOfKey knd) (fun e:DictEntry=>{e with val:=v}) k v (fun _ _=>rfl) hn hj
     rw[←he] at z
     obtain⟨l⟩:=es
     simpa using z
   · obtain⟨y,hy,rfl⟩:=aaz.mp hx
     unfold putAt
     split<;>exact knd.keeps (Pr y hy) ho hd (Heap.SameBut.update ..)
def DO(xs:List (κ×Addr×Value))(k:κ):List (κ×Addr×Value):=xs.filter fun x=>decide (x.1≠k)
theorem Fj{β:Type}(f:κ×Addr×Value→β):∀{xs:List (κ×Addr×Value)} {j:Nat} {p:Addr×Value},(xs.map (·.1)).Nodup→xs[j]?=some (k,p)→(xs.map f).eraseIdx j=(DO xs k).map f:=by
 intro xs
 induction xs with
 | nil=>intro j p _ hj;simp at hj
 | cons x r ih=>
   intro j p hn hj
   rw[aao,aaQ] at hn
   unfold DO
   cases j with
   | zero=>
     simp at hj
     have e:r.filter (fun x=>decide (x.1≠k))=r:=List.filter_eq_self.mpr fun y hy=>UW fun z=>hn.1 (by rw[hj];show k∈_;rw[←z];exact aab hy)
     rw[aaf (by rw[hj];simp),e]
     rfl
   | succ j=>
     have hj:r[j]?=some (k,p):=by simpa using hj
     have ne:x.1≠k:=fun z=>hn.1 (by rw[z];exact aaz.mpr ⟨_,VI hj,rfl⟩)
     rw[XW (by simpa using ne),aao,aao,List.eraseIdx_cons_succ,ih hn.2 hj]
     rfl
theorem Jq{p:Addr×Value}{Q:Option DictEntry→Shared→Prop}(hu:knd.room A)(hk:knd.is s.heap k a)(m:s.heap.DictOfH knd d xs)(hz:xs.length≤sizeLine)(hp:atKey xs k=some p)
   (q:∀h',h'.DictOfH knd d (DO xs k)→Heap.SameBut d s.heap h'→Q (some ⟨knd.hash k,.ref p.1,p.2⟩) {s with heap:=h',toks:=s.toks+knd.draws k}):wpAny (model P w) A (Builtin.Dict.takeOut d (.ref a)) Q E s:=by
 obtain⟨o,es,ep,ho,hc,hd,he,Pr,hn⟩:=m
 have sz:=size_of_entries he
 unfold Builtin.Dict.takeOut
 try with_reducible refine wpAny_holding ?_
 refine wpAny_bind (knd.pyHash hu hk (wpAny_bind (wpAny_dictFind_heap (s:={s with toks:=s.toks+knd.draws k}) hu hk ho hd he Pr hn (fun no=>?_) fun j p' hj=>?_)))
 · rw[atKey_none_of_get no] at hp;cases hp
 · have e:=atKey_of_get hn hj
   rw[hp] at e
   cases e
   refine wpAny_bind (wpAny_dictEntries (s:={s with toks:=s.toks+knd.draws k}) ho hd ?_)
   rw[entry_at he j,hj]
   refine wpAny_bind (wpAny_updateDictKeys (hz:=by omega) (s:={s with toks:=s.toks+knd.draws k}) ho hd (wpAny_pure (q _ ?_ (Heap.SameBut.update ..))))
   refine⟨_,_,ep+1,Heap.get?_update_self _ ho (Obj.isFreed_of_dict (Obj.data_mapDictKeys hd _)),hc.mapDictKeys _,Obj.data_mapDictKeys hd _,?_,fun x hx=>knd.keeps (Pr x (aaq.mp hx).1) ho hd (Heap.SameBut.update ..),(aaN.map _).nodup hn⟩
   have z:=Fj (k:=k) (entryOfKey knd) hn hj
   rw[←he] at z
   rw[←z]
   obtain⟨l⟩:=es
   simp
def kI(xs more:List (κ×Addr×Value)):List (κ×Addr×Value):=more.foldl (fun acc x=>storedH acc x.1 x.2.1 x.2.2) xs
theorem DP{xs more:List (κ×Addr×Value)}{i:Nat}{x:κ×Addr×Value}(h:more[i]?=some x):kI xs (more.take (i+1))=storedH (kI xs (more.take i)) x.1 x.2.1 x.2.2:=by
 unfold kI
 rw[List.take_add_one,h,List.foldl_append]
 rfl
theorem DQ(xs:List (κ×Addr×Value))(k:κ)(a:Addr)(v:Value):(storedH xs k a v).length≤xs.length+1:=by
 unfold storedH
 split
 · rw[RF];omega
 · rw[VO];exact UU _
theorem Fl(xs:List (κ×Addr×Value)):∀more:List (κ×Addr×Value),(kI xs more).length≤xs.length+more.length:=by
 intro more
 unfold kI
 induction more generalizing xs with
 | nil=>exact UU _
 | cons x r ih=>
   have h1:=ih (storedH xs x.1 x.2.1 x.2.2)
   have h2:=DQ xs x.1 x.2.1 x.2.2
   rw[List.foldl_cons,XT]
   omega
theorem Fm{nm:String}{o:Addr}{more:List (κ×Addr×Value)}{Q:Unit→Shared→Prop}(hu:knd.room A)(ne:d≠o)(lo:(o ==sysModules)=false)(tO:xs≠[])(md:s.heap.DictOfH knd d xs)(mo:s.heap.DictOfH knd o more)(hz:xs.length+more.length≤sizeLine)
   (q:∀h',h'.DictOfH knd d (kI xs more)→Heap.SameBut d s.heap h'→Q () {s with heap:=h'}):wpAny (model P w) A (Builtin.Dict.mergeDict nm d o) Q E s:=by
 obtain⟨od,Tj,epd,Tn,Ay,Pu,RA,Tg,ON⟩:=id md
 obtain⟨oo,Ib,epo,To,hco,Ki,Kb,hio,Yu⟩:=id mo
 have szo:=size_of_entries Kb
 have Yv:=size_of_entries RA
 unfold Builtin.Dict.mergeDict Builtin.Dict.showsAll
 rw[aak (by simpa using ne),lo,aak (fun z=>by cases z)]
 refine wpAny_bind (wpAny_pure (wpAny_bind (wpAny_dictEntries To Ki ?_)))
 dsimp only
 have loop:wpAny (model P w) A (do
     let RB ←dictEpoch o
     let l ←dictEntries o
     forIn [:l.size] PUnit.unit fun i (_:PUnit)=>(do
         let l' ←dictEntries o
         match l'[i]? with
           | some e=>do
             holding [e.key,e.val] (dictSetHashed d e.key e.hash e.val)
             let My ←dictEpoch o
             if(My != RB)=true then do (unsupported (toString nm++toString ":source-changed-during-callback"):Sem PUnit);pure (ForInStep.yield PUnit.unit)
               else pure (ForInStep.yield PUnit.unit)
           | _=>do (unsupported "internal:dict-merge":Sem PUnit);pure (ForInStep.yield PUnit.unit):Sem (ForInStep PUnit))
     pure ()) Q E s:=by
   refine wpAny_bind (wpAny_dictEpoch To Ki (wpAny_bind (wpAny_dictEntries To Ki (wpAny_bind ?_))))
   rw[Std.Legacy.Range.forIn_eq_forIn_range']
   simp only [Std.Legacy.Range.size,Nat.sub_zero,Nat.add_sub_cancel,Nat.div_one]
   refine wpAny_forIn_list _ (fun rest _ s'=>∃h' i,s'={s with heap:=h'}∧rest=List.range' i (Ib.size-i)∧i≤Ib.size∧h'.DictOfH knd d (kI xs (more.take i))∧Heap.SameBut d s.heap h') _ ?_ ?_ _ _ ⟨s.heap,0,rfl,by simp,aaD _,by simpa[kI] using md,Heap.SameBut.refl _ _⟩
   · rintro x rest b s' ⟨h',i,rfl,hr,hi,hm,hs⟩
     have lu:i<Ib.size:=by
       rcases Nat.lt_or_ge i Ib.size with z|z
       · exact z
       · rw[Nat.sub_eq_zero_of_le z] at hr;simp at hr
     obtain⟨ex,er⟩:x=i∧rest=List.range' (i+1) (Ib.size-(i+1)):=by
       rw[show Ib.size-i=(Ib.size-(i+1))+1 by omega,abK] at hr
       exact List.cons.inj hr
     subst ex
     have RC:h'.get? o=some oo:=(hs.2 o (Ne.symm ne)).trans To
     refine wpAny_bind (wpAny_dictEntries RC Ki ?_)
     obtain⟨⟨k,b2,v⟩,hx⟩:∃y,more[x]?=some y:=⟨more[x]'(by omega),UR _⟩
     rw[entry_at Kb x,hx]
     show wpAny _ _ (holding [Value.ref b2,v] (dictSetHashed d (.ref b2) (knd.hash k) v) >>= _) _ _ _
     have hl:(kI xs (more.take x)).length≤sizeLine:=by
       have:=Fl xs (more.take x)
       rw[aau] at this
       omega
     have hib:knd.is h' k b2:=knd.keeps (hio _ (VI hx)) Tn Pu hs
     refine wpAny_bind (wpAny_holding (Jp (s:={s with heap:=h'}) hu hib hm hl fun h2 m2 s2=>?_))
     refine wpAny_bind (wpAny_dictEpoch ((s2.2 o (Ne.symm ne)).trans RC) Ki ?_)
     rw[aak (by simp)]
     exact wpAny_pure ⟨h2,x+1,rfl,er,lu,by rw[DP hx];exact m2,hs.trans s2⟩
   · rintro b s' ⟨h',i,rfl,hr,hi,hm,hs⟩
     have e:i=Ib.size:=by
       rcases Nat.lt_or_ge i Ib.size with z|z
       · rw[show Ib.size-i=(Ib.size-(i+1))+1 by omega,abK] at hr;cases hr
       · omega
     refine wpAny_pure (q h' ?_ hs)
     rw[e,szo,aaj] at hm
     exact hm
 split
 · refine wpAny_bind (wpAny_dictEntries Tn Pu ?_)
   rw[aak (fun z=>?_)]
   · exact loop
   · have:Tj=#[]:=Array.isEmpty_iff.mp z
     rw[this] at Yv
     exact tO (aaE.mp Yv.symm)
 · exact loop
theorem Jr{o:Addr}{more:List (κ×Addr×Value)}{Q:Value→Shared→Prop}(hu:knd.room A.in1)(ne:d≠o)(lo:(o ==sysModules)=false)(tO:xs≠[])(md:s.heap.DictOfH knd d xs)(mo:s.heap.DictOfH knd o more)(hz:xs.length+more.length≤sizeLine)
   (q:∀h',h'.DictOfH knd d (kI xs more)→Heap.SameBut d s.heap h'→Q .none {s with heap:=h'}):wpAny (model P w) A (call (.builtin "dict.update") [.ref d,.ref o]) Q E s:=by
 refine wpAny_call_entry abt md.typeIs PySem.F.entry_dict_update ?_ (PySem.F.args_dict_update_2 _ _)
 unfold Builtin.«dict.update» Builtin.Dict.selfAndRest
 refine wpAny_bind (wpAny_bind (wpAny_notOrdered_dict md.typeIs (show wpAny _ _ (pure (d,[Value.ref o])) _ _ s from wpAny_pure ?_)))
 show wpAny _ _ (Builtin.Dict.updateFrom "dict.update" d (.ref o) [] .none) _ _ s
 unfold Builtin.Dict.updateFrom
 refine wpAny_bind (wpAny_typeOf mo.typeIs ?_)
 rw[aak (by decide)]
 unfold Builtin.Dict.merge Builtin.Dict.readDirectly
 refine wpAny_bind (wpAny_bind (wpAny_bind (wpAny_isInstance mo.typeIs isSubtype_dict_dict ?_)))
 simp only [Bool.not_true,aaV,if_false]
 refine wpAny_bind (wpAny_specialOf mo.typeIs F.slot_dict_iter.lookup (wpAny_pure ?_))
 simp only [beq_self_eq_true,if_true]
 refine wpAny_bind (wpAny_pure (Fm hu ne lo tO md mo hz fun h' m s'=>?_))
 show wpAny _ _ (Builtin.Dict.addKeywords d [] >>= _) _ _ _
 exact wpAny_bind (wpAny_pure (wpAny_pure ⟨.none,rfl,q h' m s'⟩))
end
def putAll{κ:Type}[DecidableEq κ](kvs more:List (κ×V)):List (κ×V):=more.foldl (fun acc kv=>putK acc kv.1 kv.2) kvs
section
variable{κ:Type}[DecidableEq κ]
theorem q8(kvs:List (κ×V))(p:κ×V)(r:List (κ×V)):putAll kvs (p::r)=putAll (putK kvs p.1 p.2) r:=rfl
theorem pU:∀(more kvs:List (κ×V)),(putAll kvs more).length≤kvs.length+more.length
 | [],kvs=>UU _
 | p::r,kvs=>by
   have h1:=pU r (putK kvs p.1 p.2)
   have h2:=jn kvs p.1 p.2
   rw[q8,XT]
   omega
theorem kt_merged{H:Hp}{more:List (List Key×V)}{ys:List (List Key×Addr×Value)}(r:KT H more ys):∀{kvs:List (List Key×V)} {xs:List (List Key×Addr×Value)},KT H kvs xs→KT H (putAll kvs more) (kI xs ys):=by
 induction r with
 | nil=>intro kvs xs r;exact r
 | @cons p q ps qs f t ih=>
   intro kvs xs r
   have z:=r.put p.1 (b:=q.2.1) f.2.1 f.2.2
   have z2:=ih z
   rw[show kI xs (q::qs)=kI (storedH xs q.1 q.2.1 q.2.2) qs from rfl,←show p.1=q.1 from f.1]
   exact z2
theorem Ht{more:List (κ×V)}{ys:List (κ×Value)}(r:KV more ys):∀{kvs:List (κ×V)} {xs:List (κ×Value)},KV kvs xs→KV (putAll kvs more) (merged xs ys):=by
 induction r with
 | nil=>intro kvs xs r;exact r
 | @cons p q ps qs f t ih=>
   intro kvs xs r
   have z:=ih (KV.put r p.1 f.2)
   rw[show merged xs (q::qs)=merged (stored xs q.1 q.2) qs from rfl,←show p.1=q.1 from f.1]
   exact z
end
section
variable{X:Cx}{pins:List (Addr×Obj)}{σ:St}{H:Hp}{s:Shared}{a b:Addr}{A:Around}{E:Value→Shared→Prop}
theorem Lk{kvs:List (List Key×V)}{xs:List (List Key×Addr×Value)}(r:KT H kvs xs)(k:List Key):KT H (jS kvs k) (DO xs k):=by
 induction r with
 | nil=>exact .nil
 | @cons p q ps qs f t ih=>
   unfold jS DO
   by_cases e:p.1=k
   · have e':q.1=k:=f.1.symm.trans e
     rw[aaf (by simp[e]),aaf (by simp[e'])]
     exact ih
   · have e':¬q.1=k:=fun z=>e (f.1.trans z)
     rw[XW (by simp[e]),XW (by simp[e'])]
     exact .cons f ih
theorem NG{kvs more:List (List Key×V)}{Q:Value→Shared→Prop}(hu:A.units+1<cLine)(I:Inv X pins σ H s)(ha:H a=some (.dT kvs))(hb:Rd H b (.dT more))(ne:a≠b)(h0:kvs≠[])(hz:kvs.length+more.length≤sizeLine)
   (h:∀s',Inv X pins σ (upd H a (.dT (putAll kvs more))) s'→Q .none s'):wpAny (model X.prog X.w) A (call (.builtin "dict.update") [.ref a,.ref b]) Q E s:=by
 obtain⟨z,lo,xs,rel,dd⟩:=IG I.iG ha
 obtain⟨z2,VE,ys,Kk,Tf⟩:=wY I.iG hb
 have l1:=Paired.length rel
 have l2:=Paired.length Kk
 have x0:xs≠[]:=fun e=>h0 (aaE.mp (by rw[l1,e];rfl))
 refine Jr (tupleKind_room_in1 hu) ne VE x0 dd Tf (by omega) fun h' m hs=>h _ ?_
 obtain⟨q,es,ep,hq,h2,h3,h4,_,h5⟩:=m
 refine sG (t':=s.toks) I (by rw[ha];exact True.intro) hs ⟨q,hq⟩ ⟨aac (pU _ _) hz,lo,_,(kt_merged Kk rel).keeps fun c ys ec=>?_,q,es,ep,hq,h2,h3,h4,h5⟩
 rw[de (i0 ec ha (fun z=>nomatch z))]
 exact ec
theorem NH{kvs more:List (Key×V)}{Q:Value→Shared→Prop}(I:Inv X pins σ H s)(ha:H a=some (.dK kvs))(hb:Rd H b (.dK more))(ne:a≠b)(hz:kvs.length+more.length≤sizeLine)
   (h:∀s',Inv X pins σ (upd H a (.dK (putAll kvs more))) s'→Q .none s'):wpAny (model X.prog X.w) A (call (.builtin "dict.update") [.ref a,.ref b]) Q E s:=by
 obtain⟨z,lo,xs,rel,dd⟩:=IF I.iG ha
 obtain⟨z2,VE,ys,Kk,Tf⟩:=wX I.iG hb
 have l1:=rel.length
 have l2:=Kk.length
 refine call_meetsIn abt dd.typeIs PySem.F.entry_dict_update (PySem.F.args_dict_update_2 _ _) (meets_dict_update (i6 X.prog X.w) a b ne VE) ⟨xs,ys,dd,Tf,by omega,fun h' KD _ hs=>h _ ?_⟩
 have he:∃q,h'.get? a=some q:=let ⟨q,_,_,hq,_⟩:=KD;⟨q,hq⟩
 exact sG (t':=s.toks) I (by rw[ha];exact True.intro) hs he (Fc (aac (pU _ _) hz) lo (Ht Kk rel) KD)
theorem NI{kvs:List (List Key×V)}{k:List Key}{v:V}{Q:Value→Shared→Prop}(hu:A.units+1<cLine)(I:Inv X pins σ H s)(ha:H a=some (.dT kvs))(hb:H b=some (.tup (k.map kV)))(l:iL kvs k=some v)
   (h:∀w' s',Inv X pins σ (upd H a (.dT (jS kvs k))) s'→RelV v w'→Q w' s'):wpAny (model X.prog X.w) A (call (.builtin "dict.pop") [.ref a,.ref b]) Q E s:=by
 obtain⟨z,lo,xs,rel,dd⟩:=IG I.iG ha
 have l1:=Paired.length rel
 obtain⟨w',hw,AX⟩:=o5.some_of (v:=v) (o:=(atKey xs k).map (·.2)) (by rw[←l];exact rel.val k)
 obtain⟨p,hp,yi⟩:=aaA.mp hw
 obtain⟨od,Tj,epd,Tn,Ay,Pu,RA,Tg,ON⟩:=id dd
 refine wpAny_call_entry abE dd.typeIs PySem.F.entry_dict_pop ?_ (PySem.F.args_dict_pop_2 _ _)
 unfold Builtin.«dict.pop» Builtin.Dict.keyAndDefault
 refine wpAny_bind (wpAny_bind (wpAny_notOrdered_dict dd.typeIs (show wpAny _ _ (pure (a,Value.ref b,none)) _ _ s from wpAny_pure ?_)))
 have part:(keyPart (Value.ref b)).isSome=false:=rfl
 simp only [part,aaV,if_false]
 refine wpAny_bind (wpAny_dictEntries Tn Pu (wpAny_bind (wpAny_pure ?_)))
 have ne:Tj.isEmpty=false:=by
   rw[abc]
   intro e
   have e:Tj=#[]:=Array.isEmpty_iff.mp e
   have sz:=size_of_entries RA
   rw[e] at sz
   have:xs=[]:=aaE.mp sz.symm
   rw[this] at hp
   cases hp
 simp only [ne,aaV,if_false]
 refine wpAny_bind (Jq (tupleKind_room_in1 hu) (tT I.iG hb) dd (by omega) hp fun h' m hs=>?_)
 simp only [Option.isNone_some,aaV,if_false]
 refine wpAny_bind (wpAny_letGo (wpAny_pure ⟨p.2,rfl,?_⟩))
 rw[yi]
 refine h w' _ ?_ AX
 obtain⟨q,es,ep,hq,h2,h3,h4,_,h5⟩:=m
 refine sG I (by rw[ha];exact True.intro) hs ⟨q,hq⟩ ⟨aac (DC _ _) z,lo,_,(Lk rel k).keeps fun c ys ec=>?_,q,es,ep,hq,h2,h3,h4,h5⟩
 rw[de (i0 ec ha (fun z=>nomatch z))]
 exact ec
theorem Ll{d:Addr}{es:Array DictEntry}{ep:Nat}{Q:Value→Shared→Prop}{P:Program}{w:World}(lo:(d ==sysModules)=false)(r:vW s.heap d es ep)(fit:(es.size:Int)<2 ^ 63)
   (h:Q (.int es.size (s.toks+1)) {s with toks:=s.toks+1+1}):wpAny (model P w) A (Builtin.«len» ⟨[.ref d],[]⟩) (fun fin s'=>∃r,fin=.done (.ret r)∧Q r s') E s:=by
 obtain⟨o,ho,hc,hd⟩:=id r
 unfold Builtin.«len»
 refine wpAny_bind (m:=oneArg "len" _) (wpAny_pure (wpAny_bind (m:=callSpecial? (.ref d) (Str.ofString "__len__")) (wpAny_callSpecial?_slot (name:=Str.ofString "__len__") r.ty F.slot_dict_len (wpAny_call_entry F.slot_dict_len r.ty F.entry_dict_len ?_ (F.args_dict_len_1 _)))))
 show wpAny _ _ (dictSize d >>= _) _ _ s
 unfold dictSize
 refine wpAny_bind (wpAny_bind (wpAny_dictEntries ho hd (wpAny_pure ?_)))
 show wpAny _ _ (Builtin.Dict.pendingCount d >>= _) _ _ s
 refine wpAny_bind (wpAny_pendingCount_other lo (wpAny_ret_mkInt ?_))
 show wpAny _ _ _ _ _ {s with toks:=s.toks+1}
 refine wpAny_bind (wpAny_holding (wpAny_pure (wpAny_bind (wpAny_letGo ?_))))
 show wpAny _ _ (if((es.size+0:Nat):Int)<0 then _ else _) _ _ _
 rw[aak (by omega),Nat.add_zero]
 show wpAny _ _ (if((es.size:Nat):Int)≥2 ^ 63 then _ else _) _ _ _
 rw[aak (by omega)]
 exact wpAny_bind (wpAny_mkInt (wpAny_pure ⟨_,rfl,h⟩))
theorem Fn{d:Addr}{es:Array DictEntry}{ep:Nat}{Q:Bool→Shared→Prop}{P:Program}{w:World}(lo:(d ==sysModules)=false)(r:vW s.heap d es ep)(fit:(es.size:Int)<2 ^ 63)
   (h:Q ((es.size:Int) != 0) {s with toks:=s.toks+1+1}):wpAny (model P w) A (truthy (.ref d)) Q E s:=by
 have key:wpAny (model P w) A (runValue (.builtin "len" ⟨[.ref d],[]⟩)) (fun r s'=>r=.int es.size (s.toks+1)∧Q ((es.size:Int) != 0) s') E s:=by
   refine wpAny_runValue (codeAny_builtin entry_len ?_)
   rw[Around.under_plainId plain_len _]
   refine wpAny_mono (Ll (Q:=fun r s'=>r=.int es.size (s.toks+1)∧Q ((es.size:Int) != 0) s') lo r fit ⟨rfl,h⟩) (fun fin s' h'=>?_) fun _ _ e=>e
   obtain⟨r,rfl,hq⟩:=h'
   exact hq
 unfold truthy
 first
   | refine wpAny_bind (wpAny_callSpecial?_none (name:=Str.ofString "__bool__") r.ty noBool_dict ?_)
   | refine wpAny_bind (wpAny_pure (wpAny_bind (wpAny_callSpecial?_none (name:=Str.ofString "__bool__") r.ty noBool_dict ?_)))
 first
   | refine wpAny_bind (wpAny_specialOf (name:=Str.ofString "__len__") r.ty F.slot_dict_len.lookup ?_)
   | refine wpAny_bind (wpAny_pure (wpAny_bind (wpAny_specialOf (name:=Str.ofString "__len__") r.ty F.slot_dict_len.lookup ?_)))
 first
   | exact wpAny_bind (wpAny_mono key (fun r s' h'=>by obtain⟨rfl,hq⟩:=h';exact wpAny_pure hq) fun _ _ e=>e)
   | exact wpAny_bind (wpAny_pure (wpAny_bind (wpAny_mono key (fun r s' h'=>by obtain⟨rfl,hq⟩:=h';exact wpAny_pure hq) fun _ _ e=>e)))
end
def NJ(td ty:TE):TE:=fun σ H Q=>td σ H fun x H1=>∃a,x=.ref a∧Pd H1 a∧ty σ H1 fun y H2=>∃b kvs more,y=.ref b∧H2 a=some (.dT kvs)∧Rd H2 b (.dT more)∧a≠b∧kvs≠[]∧kvs.length+more.length≤sizeLine∧Q .jv (upd H2 a (.dT (putAll kvs more)))
def NK(td ty:TE):TE:=fun σ H Q=>td σ H fun x H1=>∃a,x=.ref a∧Pd H1 a∧ty σ H1 fun y H2=>∃b kvs more,y=.ref b∧H2 a=some (.dK kvs)∧Rd H2 b (.dK more)∧a≠b∧kvs.length+more.length≤sizeLine∧Q .jv (upd H2 a (.dK (putAll kvs more)))
def NL(td ty:TE):TE:=fun σ H Q=>td σ H fun x H1=>∃a,x=.ref a∧Pd H1 a∧ty σ H1 fun y H2=>∃b kvs k v,y=.ref b∧H2 a=some (.dT kvs)∧H2 b=some (.tup (k.map kV))∧iL kvs k=some v∧Q v (upd H2 a (.dT (jS kvs k)))
section
variable{X:Cx}{o e f:Expr}{apos kP:Pos}{td ty tx:TE}
theorem Js(hu:X.A.units+1<cLine)(ho:PE X o td)(he:PE X e ty)(m:M1 X o "update" apos e kP):PE X (.Call (.Attribute o "update" apos) [e] [] kP) (NJ td ty):=by
 intro pins s σ H Q I h
 refine wpAny_Call_method m.base m.jK m.line abi abt PySem.F.type_dict_update (iY (ho pins s σ H _ I h) fun u s1 ⟨x,H1,I1,rx,a,ex,d,q1⟩=>?_)
 subst ex
 obtain rfl:u=Value.ref a:=rx
 obtain⟨t1,t2,_⟩:=yR I1 d
 refine⟨t1,t2,?_⟩
 rw[m.trees]
 refine Calls.callWith_builtin rfl (Calls.evalArgs_plain (Calls.spliced_cons (iY (he pins s1 σ H1 _ I1 q1) fun iv s2 ⟨y,H2,I2,ry,b,kvs,more,ey,ha,hb,ne,h0,hz,q2⟩=>Calls.spliced_nil ?_)))
 subst ey
 obtain rfl:iv=Value.ref b:=ry
 exact NG hu I2 ha hb ne h0 hz fun s3 I3=>⟨.jv,_,I3,rfl,q2⟩
theorem Jt(ho:PE X o td)(he:PE X e ty)(m:M1 X o "update" apos e kP):PE X (.Call (.Attribute o "update" apos) [e] [] kP) (NK td ty):=by
 intro pins s σ H Q I h
 refine wpAny_Call_method m.base m.jK m.line abi abt PySem.F.type_dict_update (iY (ho pins s σ H _ I h) fun u s1 ⟨x,H1,I1,rx,a,ex,d,q1⟩=>?_)
 subst ex
 obtain rfl:u=Value.ref a:=rx
 obtain⟨t1,t2,_⟩:=yR I1 d
 refine⟨t1,t2,?_⟩
 rw[m.trees]
 refine Calls.callWith_builtin rfl (Calls.evalArgs_plain (Calls.spliced_cons (iY (he pins s1 σ H1 _ I1 q1) fun iv s2 ⟨y,H2,I2,ry,b,kvs,more,ey,ha,hb,ne,hz,q2⟩=>Calls.spliced_nil ?_)))
 subst ey
 obtain rfl:iv=Value.ref b:=ry
 exact NH I2 ha hb ne hz fun s3 I3=>⟨.jv,_,I3,rfl,q2⟩
theorem Ju(hu:X.A.units+1<cLine)(ho:PE X o td)(he:PE X e ty)(m:M1 X o "pop" apos e kP):PE X (.Call (.Attribute o "pop" apos) [e] [] kP) (NL td ty):=by
 intro pins s σ H Q I h
 refine wpAny_Call_method m.base m.jK m.line abi abE PySem.F.type_dict_pop (iY (ho pins s σ H _ I h) fun u s1 ⟨x,H1,I1,rx,a,ex,d,q1⟩=>?_)
 subst ex
 obtain rfl:u=Value.ref a:=rx
 obtain⟨t1,t2,_⟩:=yR I1 d
 refine⟨t1,t2,?_⟩
 rw[m.trees]
 refine Calls.callWith_builtin rfl (Calls.evalArgs_plain (Calls.spliced_cons (iY (he pins s1 σ H1 _ I1 q1) fun iv s2 ⟨y,H2,I2,ry,b,kvs,k,v,ey,ha,hb,l,q2⟩=>Calls.spliced_nil ?_)))
 subst ey
 obtain rfl:iv=Value.ref b:=ry
 exact NI hu I2 ha hb l fun w' s3 I3 AX=>⟨v,_,I3,AX,q2⟩
theorem Hu{a:Expr}{ta:TE}(ha:PE X a ta)(he:∀whole,isTrue a X.env whole=(do let v ←whole;standAt a.pos;holding [v] (truthy v))) :
   PT X a (fun σ H Q=>ta σ H fun x H'=>∃p kvs,x=.ref p∧H' p=some (.dT kvs)∧Q (!kvs.isEmpty) H'):=by
 intro pins s σ H Q I h
 refine isTrue_plain (iY (ha pins s σ H _ I h) fun v s1 ⟨x,H1,I1,r1,p,kvs,ex,hp,q⟩=>?_) (he _)
 subst ex
 obtain rfl:v=Value.ref p:=r1
 obtain⟨lo,hz,es,ep,raw,sz,_⟩:=y8 (I1.iG p _ hp)
 have hs:sizeLine=16777216:=sizeLine_eq
 refine Fn lo raw (by omega) ?_
 have e:((es.size:Int) != 0)=!kvs.isEmpty:=by rw[sz];cases kvs<;>simp<;>omega
 rw[e]
 exact⟨H1,I1.tok _,q⟩
end
theorem Hv:bootBuiltins "enumerate"=some (.type "enumerate"):=by decide+kernel
section
variable{X:Cx}{pins:List (Addr×Obj)}{σ:St}{H:Hp}{s:Shared}{h':Heap}
theorem Inv.Lm{t':Nat}{a b:Addr}(I:Inv X pins σ H s)(k:∀c o,c≠a→c≠b→s.heap.get? c=some o→h'.get? c=some o)(fa:tR X pins H a)(fb:tR X pins H b)
   (ha:∃o,h'.get? a=some o) (hb:∃o,h'.get? b=some o):Inv X pins σ H {s with heap:=h',toks:=t'}:=by
 obtain⟨a0,a1,a2,a3,a4,a5⟩:=fa
 obtain⟨b0,b1,b2,b3,b4,b5⟩:=fb
 have na:∀c u,H c=some u→c≠a:=fun c u e z=>by rw[z,a0] at e;cases e
 have nb:∀c u,H c=some u→c≠b:=fun c u e z=>by rw[z,b0] at e;cases e
 have out:∀c,c∉[a,b]→c≠a∧c≠b:=fun c hc=>⟨fun z=>hc (by simp[z]),fun z=>hc (by simp[z])⟩
 refine I.step (g':=s.gens) (d':=s.drawn) (ch:=[a,b]) (fun c hc=>?_) (fun c o _ _ hc e _=>k c o (out c hc).1 (out c hc).2 e) (fun c o _ _ hc e _=>⟨o.slots,k c o (out c hc).1 (out c hc).2 e⟩) (fun _ _ _ _ n=>n)
   (fun c o hc e=>⟨o,k c o (out c hc).1 (out c hc).2 e⟩) (fun _ _ e=>e) (fun _ _ _ e=>e) (fun c ps e=>⟨#[],by rw[e];simp⟩) (fun m hm=>?_) (fun c u e=>?_) I.bare
 · rcases XU.mp hc with z|z
   · rw[z];exact⟨a3,a1,a4,a5⟩
   · rw[UP.mp z];exact⟨b3,b1,b4,b5⟩
 · obtain⟨o,es,ep,ho,r⟩:=hm
   exact⟨o,es,ep,k _ o (Ne.symm a1) (Ne.symm b1) ho,r⟩
 · refine(I.iG c u e).vL (fun d v hd q=>k d v ?_ ?_ q) (fun _ q=>q) fun _ _ q=>q
   · rcases hd with z|z
     · rw[z];exact na c u e
     · exact na d _ z
   · rcases hd with z|z
     · rw[z];exact nb c u e
     · exact nb d _ z
end
def Qz(t:TT):TT:=fun σ H Q=>∃M:Bool→Hp→Prop,t σ H M∧∀b H',M b H'→Q b H'
theorem Jv{X:Cx}{e:Expr}{t:TT}(h:PT X e t):PT X e (Qz t):=fun pins s σ H Q I ⟨M,h1,h2⟩=>iY (h pins s σ H M I h1) fun b s' ⟨H',I',q⟩=>⟨H',I',h2 b H' q⟩
def QA(K:PySem.W.Frag)(a:Addr):It:=
 ⟨fun i H=>∃xs x,hV K H a xs∧xs[i]?=some x,fun i H x H'=>∃t y,H t=none∧x=.ref t∧H'=upd H t (.tup [.int i,y])∧∀xs,hV K H a xs→xs[i]?=some y,fun i H=>∃xs,hV K H a xs∧xs.length≤i⟩
theorem Hw{P:Program}{w:World}{K:PySem.W.Frag}{elts:List Expr}{x1}{pos:Pos}(a e it:Addr)(tO:e≠it):Turn P w K (.Tuple elts x1 pos) (QA K a) [e,it] e (fun i h=>(∃old,IsEnum h e it ((i:Nat):Int) old)∧h.IsListIter it a i) where
 mem:=by simp
 obj:=fun i h ⟨⟨old,Ia⟩,AV⟩ b hb=>by
   rcases XU.mp hb with z|z
   · subst z;exact⟨_,Ia,fun v z=>by have z':Data.fields _=Data.cell v:=z;cases z'⟩
   · rw[UP.mp z]
     obtain⟨o,ho,c,d⟩:=AV
     exact⟨o,ho,fun v z=>by rw[d] at z;cases z⟩
 keep:=fun i h h' ⟨⟨old,Ia⟩,AV⟩ k=>⟨⟨old,k e (by simp) _ Ia⟩,AV.at fun o ho=>k it (by simp) o ho⟩
 item:=by
   intro X hP hw hK hc i pins s σ H E I hf ⟨⟨old,Ia⟩,AV⟩ hg
   subst hP hw hK
   obtain⟨xs,x,hq,hx⟩:=hg
   obtain⟨hX,rv,p,hz⟩:=I.list hq
   obtain⟨u,hu,ru⟩:=rv.get hx
   have fe:=hf e (by simp)
   have fi:=hf it (by simp)
   have VF:e<s.heap.objs.size:=Heap.lt_size Ia
   refine wpAny_pyNext_enum_item Ia AV p.isList (x:=u) (by simpa using hu) tO fun h₁ Kb VG ht₁ hz₁ hk₁=>?_
   refine⟨_,rfl,?_⟩
   refine wpAny_letOwnedTupleGo_enum Kb fun h₂ Yw RD=>?_
   replace RD:Heap.SameBut e h₁ h₂:=RD
   have ht₂:h₂.get? s.heap.objs.size=some {cls:=.type "tuple",data:=.seq #[.int i s.toks,u]}:=(RD.2 _ (Nat.ne_of_gt VF)).trans ht₁
   have RE:h₂.IsListIter it a (i+1):=VG.extBut RD.extBut (Ne.symm tO)
   have Rv:H s.heap.objs.size=none:=I.iG.fresh (UU _)
   have rT:Vals [.int i,x] [.int i s.toks,u]:=.cons ⟨s.toks,rfl⟩ (.cons ru .nil)
   have I1:Inv X pins σ (upd H s.heap.objs.size (.tup [.int i,x])) {s with heap:=s.heap.push {cls:=.type "tuple",data:=.seq #[.int i s.toks,u]},toks:=s.toks}:=
     I.laid (t':=s.toks) (fun b u e=>Heap.get?_push_of_some _ e) (UU _) ⟨L2.jK,_,rT,⟨_,Heap.get?_push_size _ rfl,rfl,_,rfl⟩⟩
   have up:∀b,tR X pins H b→b<s.heap.objs.size→tR X pins (upd H s.heap.objs.size (.tup [.int i,x])) b:=fun b f hb=>by
     obtain⟨f0,r⟩:=f
     exact⟨by rw[de (aaM hb)];exact f0,r⟩
   have Pw:it<s.heap.objs.size:=by obtain⟨o,ho,_⟩:=id AV;exact Heap.lt_size ho
   obtain⟨oi,Tp,_⟩:=id RE
   have I2:=I1.Lm (h':=h₂) (t':=s.toks+1) (a:=e) (b:=it) (fun c o h1 h2 hc=>?_) (up e fe VF) (up it fi Pw) ⟨_,Yw⟩ ⟨oi,Tp⟩
   · refine⟨.ref s.heap.objs.size,_,I2,rfl,⟨_,x,Rv,rfl,rfl,fun ys hy=>by rw[I.o6 hy hq];exact hx⟩,⟨⟨u,?_⟩,RE⟩,fun b hb=>?_⟩
     · have:((i+1:Nat):Int)=(i:Int)+1:=by push_cast;rfl
       rw[this];exact Yw
     · rcases XU.mp hb with z|z
       · subst z;exact(up _ fe VF).1
       · rw[UP.mp z];exact(up it fi Pw).1
   · by_cases Yx:c=s.heap.objs.size
     · subst Yx
       have:(s.heap.push {cls:=.type "tuple",data:=.seq #[.int i s.toks,u]}).get? s.heap.objs.size=some {cls:=.type "tuple",data:=.seq #[.int i s.toks,u]}:=Heap.get?_push_size _ rfl
       rw[this] at hc;cases hc
       exact ht₂
     · have BG:s.heap.get? c=some o:=(Heap.get?_push_cases hc).elim (fun z=>absurd z.1 Yx) id
       exact(RD.2 c h1).trans (hk₁ c o h1 h2 BG)
 done:=by
   intro X hP hw hK hc i pins s σ H E I hf ⟨⟨old,Ia⟩,AV⟩ hg
   subst hP hw hK
   obtain⟨xs,hq,hx⟩:=hg
   obtain⟨hX,rv,p,hz⟩:=I.list hq
   obtain⟨f0,f1,f2,f3,f4,f5⟩:=hf it (by simp)
   have hl:=rv.length
   exact wpAny_pyNext_enum_end (I.ok.hd hc) Ia AV p.isList (Array.getElem?_eq_none (by simp;omega)) fun h' eb=>⟨rfl,I.turned (t':=s.toks) (fun b o hb e=>eb b o hb e) f0 f1 f3 f4 f5⟩
 self:=fun _ _ _ _ _ ⟨⟨old,Ia⟩,AV⟩ h=>wpAny_pyIter_enum Ia h
def QB(K:PySem.W.Frag)(ta:TA):TI:=fun σ H R=>ta σ H fun vs H1=>∃a,vs=[.ref a]∧(∃xs,hV K H1 a xs)∧R (QA K a) H1
section
variable{X:Cx}
theorem Lo{a:Expr}{ta:TA}{p pos:Pos}{elts:List Expr}{x1}{OE:Pos}(hg:Gl X "enumerate")(hm:X.mg "enumerate"=none)(ha:PA X [a] ta)(hs:starEach [a] X.env=[(false,eval a X.env)]:=by rfl):PI X (.Tuple elts x1 OE) (.Call (.Name "enumerate" p) [a] [] pos) (QB X.K ta):=by
 intro pins s σ H R I h
 refine Call_ (oI I hg hm Hv (aaP (iY (ha pos pins s σ H _ I h) fun us s1 ⟨vs,H1,I1,r1,q1⟩=>?_) hs rfl))
 obtain⟨l,rfl,⟨xs,hq⟩,q⟩:=q1
 obtain⟨u,rfl,ru⟩:=vals1 r1
 cases (show u=Value.ref l from ru)
 obtain⟨hX,rv,pp,hz⟩:=I1.list hq
 refine call_enumerate_list pp.isList fun h' he hit hsz hk=>?_
 have I2:Inv X pins σ H1 {s1 with heap:=h'}:=I1.kept (t':=s1.toks) hk
 refine wpAny_pyIter_enum he ?_
 refine⟨s1.heap.objs.size+1,[s1.heap.objs.size+1,s1.heap.objs.size],_,_,H1,rfl,I2,Hw l (s1.heap.objs.size+1) s1.heap.objs.size (Nat.succ_ne_self _),⟨⟨_,he⟩,hit⟩,fun b hb=>?_,q⟩
 rcases XU.mp hb with z|z
 · subst z;exact I1.yH (by omega) (I1.iG.fresh (by omega))
 · rw[UP.mp z];exact I1.yH (UU _) (I1.iG.fresh (UU _))
theorem Jw{K:PySem.W.Frag}{a:Addr}{xs:List V}{g:TG}{tb:TS}{D:Ends}{σ:St}{H:Hp}(Pv:Nat→St→Hp→Prop)(h0:Pv 0 σ H)(hl:∀i σ H,i≤xs.length→Pv i σ H→hV K H a xs)
   (hs:∀i x t σ H,xs[i]?=some x→Pv i σ H→H t=none→g (.ref t) σ (upd H t (.tup [.int i,x])) fun σ2 H2=>tb {D with nx:=Pv (i+1),ct:=Pv (i+1),bk:=D.nx} σ2 H2) (hd:∀σ H,Pv xs.length σ H→D.nx σ H) :
   ∃W:Nat→Nat→St→Hp→Prop,(∃m,W 0 m σ H)∧∀i m σ H,W i m σ H→
     ((QA K a).stop i H∧D.nx σ H)∨((QA K a).go i H∧∃N:St→Hp→Prop,(∀σ' H',N σ' H'→∃m',m'<m∧W (i+1) m' σ' H')∧∀x H',(QA K a).Iu i H x H'→g x σ H' fun σ2 H2=>tb {D with nx:=N,ct:=N,bk:=D.nx} σ2 H2):=by
 refine⟨fun i m σ H=>m=xs.length-i∧i≤xs.length∧Pv i σ H,⟨xs.length,by simp,aaD _,h0⟩,?_⟩
 rintro i m σ H ⟨rfl,hi,p⟩
 have q:=hl i σ H hi p
 by_cases lu:i<xs.length
 · refine .inr ⟨⟨xs,xs[i],q,UR lu⟩,Pv (i+1),fun σ' H' p'=>⟨xs.length-(i+1),by omega,rfl,lu,p'⟩,fun x H' y=>?_⟩
   obtain⟨t,z,ht,rfl,rfl,y⟩:=y
   exact hs i z t σ _ (y xs q) p ht
 · have e:i=xs.length:=by omega
   subst e
   exact .inl ⟨⟨xs,q,UU _⟩,hd σ H p⟩
end
structure DF(K:PySem.W.Frag)(mg:Str→Option Value)(x:Str)(st:Stmt)(a:Addr)(d:FuncData)(ps:List Str):Prop where
 f:Ax K x x st a d
 b:Binds K d ps []
 m:mg x=some (.ref a)
structure DM(K:PySem.W.Frag)(C:Addr)(x q:Str)(st:Stmt)(a:Addr)(d:FuncData)(ps:List Str):Prop where
 f:Ax K x q st a d
 b:Binds K d ps []
 t:Meth K C x a
def FI(K:PySem.W.Frag)(x:Str)(st:Stmt)(f:Addr):Prop:=PySem.W.nsIn K mainGlobals x=some (some (.ref f))∧∃d,Ax K x x st f d
def MI(K:PySem.W.Frag)(C:Addr)(x q:Str)(st:Stmt)(f:Addr):Prop:=Meth K C x f∧∃d,Ax K x q st f d
section
variable{K:PySem.W.Frag}{x q:Str}{st:Stmt}{f C:Addr}{oc kV doc pm jd ct:Value}{od an:Option Addr}{HZ:Array (Option Value)}
theorem fi_mk(a:PySem.W.nsIn K mainGlobals x=some (some (.ref f)))(l:K.lookup f=some ⟨oc,od,.func (PySem.W.fnOf x x (pQ st) (mf st) (fU st) .none kV doc pm an jd ct),HZ⟩)(c:PySem.W.codeIn K jd x=true)(k:PySem.W.keepIn K (.ref f)=true):FI K x st f:=⟨a,_,IM l c k⟩
theorem mi_mk(a:PySem.W.findIn K (.ref C) x=some (some (.ref f)))(i:PySem.W.isFn K (.ref f)=true)(l:K.lookup f=some ⟨oc,od,.func (PySem.W.fnOf x q (pQ st) (mf st) (fU st) .none kV doc pm an jd ct),HZ⟩)(c:PySem.W.codeIn K jd q=true)(k:PySem.W.keepIn K (.ref f)=true):MI K C x q st f:=⟨⟨a,i,k⟩,_,IM l c k⟩
end
theorem ED{α:Type}{us:List α}(h:us.length=1):∃a,us=[a]:=by
 match us,h with
 | [a],_=>exact⟨a,rfl⟩
theorem ln2{α:Type}{us:List α}(h:us.length=2):∃a b,us=[a,b]:=by
 match us,h with
 | [a,b],_=>exact⟨a,b,rfl⟩
theorem FQ{α:Type}{us:List α}(h:us.length=3):∃a b c,us=[a,b,c]:=by
 match us,h with
 | [a,b,c],_=>exact⟨a,b,c,rfl⟩
theorem Tq{α:Type}{us:List α}(h:us.length=4):∃a b c d,us=[a,b,c,d]:=by
 match us,h with
 | [a,b,c,d],_=>exact⟨a,b,c,d,rfl⟩
theorem RG{α:Type}{us:List α}(h:us.length=5):∃a b c d e,us=[a,b,c,d,e]:=by
 match us,h with
 | [a,b,c,d,e],_=>exact⟨a,b,c,d,e,rfl⟩
theorem Yy{α:Type}{us:List α}(h:us.length=6):∃a b c d e f,us=[a,b,c,d,e,f]:=by
 match us,h with
 | [a,b,c,d,e,f],_=>exact⟨a,b,c,d,e,f,rfl⟩
theorem ln7{α:Type}{us:List α}(h:us.length=7):∃a b c d e f g,us=[a,b,c,d,e,f,g]:=by
 match us,h with
 | [a,b,c,d,e,f,g],_=>exact⟨a,b,c,d,e,f,g,rfl⟩
def scT(N P:List Str)(sc:Scope):Bool:=decide (sc.kind=.function)&&!sc.isCoroutine&&!sc.isGenerator&&decide N.Nodup&&decide (N.take P.length=P)&&P.all (fun x=>decide (sc.names.lookup x=some .local)||decide (sc.names.lookup x=some .cell))&&sc.names.all (fun y=>decide (y.2≠.free))
theorem scM{N P:List Str}{sc:Scope}(h:scT N P sc=true):gm N P sc:=by
 unfold scT at h
 simp only [aaX,decide_eq_true_eq,Bool.not_eq_true',abg,abN] at h
 obtain⟨⟨⟨⟨⟨⟨a,b⟩,c⟩,d⟩,e⟩,f⟩,g⟩:=h
 exact⟨a,b,c,d,e,f,g⟩
section
variable{X:Cx}{x q m:Str}{st:Stmt}{f C:Addr}{fd:FuncData}{ps:List Str}{sp:Sp}{k j:Nat}{e o:Expr}{es:List Expr}{t:TA}{ta:TE}{p pos apos:Pos}{E:XK}
theorem pc0(D:DF X.K X.mg x st f fd ps)(F:ie X.prog X.w X.K X.mg X.base lZ k f fd ps sp)(hr:ku j X.A)(ha:PA X (e::es) t)(hk:k≤j:=by decide)(hg:Gl X x:=by rfl)(AW:(x ==("__debug__":Str))=false:=by decide)(he:starEach (e::es) X.env=(false,eval e X.env)::starEach es X.env:=by rfl)(oW:(backTo pos (starEach es X.env)).any (·.1)=false:=by rfl):PE X (.Call (.Name x p) (e::es) [] pos) (Ds sp [] E0 t):=uE F (hr.mono hk) hg D.m D.f.kp D.b .nil lg ha AW he oW
theorem pc1(b:Bx X E)(D:DF X.K X.mg x st f fd ps)(F:ie X.prog X.w X.K X.mg X.base (sH X.prog X.w) k f fd ps sp)(hr:ku j X.A)(ha:PA X (e::es) t)(hk:k≤j:=by decide)(hg:Gl X x:=by rfl)(AW:(x ==("__debug__":Str))=false:=by decide)(he:starEach (e::es) X.env=(false,eval e X.env)::starEach es X.env:=by rfl)(oW:(backTo pos (starEach es X.env)).any (·.1)=false:=by rfl):PE X (.Call (.Name x p) (e::es) [] pos) (Ds sp [] E t):=uE F (hr.mono hk) hg D.m D.f.kp D.b .nil (Ms b) ha AW he oW
theorem pm0{pl:Sem Bool}(h:PE X o ta)(c:EY X.K C)(D:DM X.K C m q st f fd ps)(F:ie X.prog X.w X.K X.mg X.base lZ k f fd ps sp)(hr:ku j X.A)(ha:PA X (e::es) t)(hk:k≤j:=by decide)(zZ:starEach (e::es) X.env=(false,eval e X.env)::starEach es X.env:=by rfl)(oW:(backTo pos (starEach es X.env)).any (·.1)=false:=by rfl)
   (ht:eval (.Call (.Attribute o m apos) (e::es) [] pos) X.env=(do
     let ov ←eval o X.env
     standAt apos.atName
     let (f,first) ←holding [ov] (getMethod ov m pl)
     callWith pos f first (backTo pos (starEach (e::es) X.env)) (backToKw pos (keywordEach [] X.env))):=by rfl):PE X (.Call (.Attribute o m apos) (e::es) [] pos) (Gg C m sp [] E0 ta t):=Gh h c D.t F (hr.mono hk) D.b .nil lg ha zZ oW ht
theorem pm1(b:Bx X E){pl:Sem Bool}(h:PE X o ta)(c:EY X.K C)(D:DM X.K C m q st f fd ps)(F:ie X.prog X.w X.K X.mg X.base (sH X.prog X.w) k f fd ps sp)(hr:ku j X.A)(ha:PA X (e::es) t)(hk:k≤j:=by decide)(zZ:starEach (e::es) X.env=(false,eval e X.env)::starEach es X.env:=by rfl)(oW:(backTo pos (starEach es X.env)).any (·.1)=false:=by rfl)
   (ht:eval (.Call (.Attribute o m apos) (e::es) [] pos) X.env=(do
     let ov ←eval o X.env
     standAt apos.atName
     let (f,first) ←holding [ov] (getMethod ov m pl)
     callWith pos f first (backTo pos (starEach (e::es) X.env)) (backToKw pos (keywordEach [] X.env))):=by rfl):PE X (.Call (.Attribute o m apos) (e::es) [] pos) (Gg C m sp [] E ta t):=Gh h c D.t F (hr.mono hk) D.b .nil (Ms b) ha zZ oW ht
end
end L2
namespace K01
section
variable{α:Type}[DecidableEq α]
def lcs:List α→List α→Nat
 | [],_=>0
 | _::_,[]=>0
 | a::as,b::bs=>if b=a then lcs as bs+1 else max (lcs as (b::bs)) (lcs (a::as) bs)
termination_by x y=>x.length+y.length
def nq(x y:List α)(n:Nat):Prop:=(∀s:List α,s.Sublist x→s.Sublist y→s.length≤n)∧∃s:List α,s.Sublist x∧s.Sublist y∧s.length=n
theorem nq.uniq{x y:List α}{n m:Nat}(h:nq x y n)(g:nq x y m):n=m:=by
 obtain⟨h1,s,a,b,e⟩:=h
 obtain⟨g1,t,c,d,f⟩:=g
 have:=g1 s a b
 have:=h1 t c d
 omega
theorem nq.DR(y:List α):nq [] y 0:=⟨fun s a _=>by have:=a.length_le;simpa using this,[],aax _,List.nil_sublist _,rfl⟩
theorem nq.Bl(x:List α):nq x [] 0:=⟨fun s _ b=>by have:=b.length_le;simpa using this,[],List.nil_sublist _,aax _,rfl⟩
theorem lE{s as:List α}{a:α}(h:s.Sublist (a::as)):s.Sublist as∨∃t,s=a::t∧t.Sublist as:=by
 cases h with
 | cons _ h=>exact .inl h
 | cons_cons _ h=>exact .inr ⟨_,rfl,h⟩
theorem nq.eq{as bs:List α}{a:α}{n:Nat}(h:nq as bs n):nq (a::as) (a::bs) (n+1):=by
 obtain⟨h1,s,x,y,e⟩:=h
 refine⟨fun t c d=>?_,a::s,x.cons_cons a,y.cons_cons a,by rw[XT,e]⟩
 rcases lE c with c2|⟨u,e2,c2⟩
 · rcases lE d with d2|⟨v,e3,d2⟩
   · have:=h1 t c2 d2;omega
   · subst e3
     have:=h1 v ((aa_ a v).trans c2) d2
     rw[XT];omega
 · have d':u.Sublist bs:=by
     subst e2
     rcases lE d with d2|⟨v,e',d2⟩
     · exact(aa_ a u).trans d2
     · cases e';exact d2
   have:=h1 u c2 d'
   subst e2
   rw[XT];omega
theorem nq.ne{as bs:List α}{a b:α}{n m:Nat}(GV:a≠b)(h:nq as (b::bs) n)(g:nq (a::as) bs m):nq (a::as) (b::bs) (max n m):=by
 obtain⟨h1,s,x,y,e⟩:=h
 obtain⟨g1,s',x',y',e'⟩:=g
 refine⟨fun t c d=>?_,?_⟩
 · rcases lE c with c'|⟨u,rfl,_⟩
   · have:=h1 t c' d;omega
   · rcases lE d with d'|⟨v,e,_⟩
     · have:=g1 _ c d';omega
     · cases e;exact absurd rfl GV
 · by_cases Tr:m≤n
   · exact⟨s,x.cons a,y,by omega⟩
   · exact⟨s',x',y'.cons b,by omega⟩
theorem j3:∀x y:List α,nq x y (lcs x y)
 | [],y=>by rw[lcs];exact .DR y
 | a::as,[]=>by rw[lcs];exact .Bl _
 | a::as,b::bs=>by
   rw[lcs]
   by_cases h:b=a
   · rw[aap h];subst h;exact(j3 as bs).eq
   · rw[aak h];exact .ne (fun e=>h e.symm) (j3 as (b::bs)) (j3 (a::as) bs)
termination_by x y=>x.length+y.length
theorem Lp(x:List α):lcs x []=0:=(j3 x []).uniq (.Bl x)
theorem Gu(y:List α):lcs [] y=0:=(j3 [] y).uniq (.DR y)
theorem y_{x x' y y':List α}(h:x.Sublist x')(g:y.Sublist y'):lcs x y≤lcs x' y':=by
 obtain⟨_,s,a,b,e⟩:=j3 x y
 rw[←e]
 exact(j3 x' y').1 s (a.trans h) (b.trans g)
theorem DS(x y:List α):lcs x y≤x.length:=by
 obtain⟨_,s,a,b,e⟩:=j3 x y
 rw[←e];exact a.length_le
def i4(a:α)(new:List α)(j:Nat):Option Nat:=((new.drop j).findIdx? (·=a)).map (j+·)
def o_(new:List α):Nat→List α→Nat→List (Nat×Nat)
 | _,[],_=>[]
 | i,a::as,j=>match i4 a new j with
   | none=>o_ new (i+1) as j
   | some k=>if lcs as (new.drop (k+1))+1=lcs (a::as) (new.drop j) then(i,k)::o_ new (i+1) as (k+1) else o_ new (i+1) as j
def kept(old new:List α):List (Nat×Nat):=o_ new 0 old 0
theorem ky{a:α}{new:List α}{j k:Nat}(h:i4 a new j=some k):j≤k∧new[k]?=some a∧∀l,j≤l→l<k→new[l]?≠some a:=by
 unfold i4 at h
 cases e:(new.drop j).findIdx? (·=a) with
 | none=>rw[e] at h;cases h
 | some d=>
   rw[e] at h
   have h:j+d=k:=aat h
   subst h
   obtain⟨hd,h1,h2⟩:=List.findIdx?_eq_some_iff_getElem.mp e
   have h1:(new.drop j)[d]=a:=by simpa using h1
   refine⟨Nat.le_add_right _ _,?_,fun l hl hk q=>?_⟩
   · rw[←abA,UR hd,h1]
   · have:=h2 (l-j) (by omega)
     have hq:(new.drop j)[l-j]?=some a:=by rw[abA,show j+(l-j)=l by omega];exact q
     obtain⟨hh,he⟩:=RL.mp hq
     simp[he] at this
theorem nr{a:α}{new:List α}{j:Nat}(h:i4 a new j=none):∀l,j≤l→new[l]?≠some a:=by
 unfold i4 at h
 cases e:(new.drop j).findIdx? (·=a) with
 | some d=>rw[e] at h;cases h
 | none=>
   intro l hl q
   have hq:(new.drop j)[l-j]?=some a:=by rw[abA,show j+(l-j)=l by omega];exact q
   have:=List.findIdx?_eq_none_iff.mp e a (VI hq)
   simp at this
theorem Jx{a:α}{as y:List α}(h:a∉y):lcs (a::as) y=lcs as y:=by
 refine(j3 (a::as) y).uniq ⟨fun s c d=>?_,?_⟩
 · rcases lE c with c|⟨t,rfl,c⟩
   · exact(j3 as y).1 s c d
   · exact absurd (d.subset aan) h
 · obtain⟨_,s,c,d,e⟩:=j3 as y
   exact⟨s,c.cons a,d,e⟩
theorem pV{new:List α}{k:Nat}{a:α}(h:new[k]?=some a):new.drop k=a::new.drop (k+1):=by
 obtain⟨hk,e⟩:=RL.mp h
 rw[aaL hk,e]
theorem za{new:List α}{j k:Nat}(h:j≤k):(new.drop k).Sublist (new.drop j):=by
 have:new.drop k=(new.drop j).drop (k-j):=by rw[List.drop_drop];congr 1;omega
 rw[this];exact List.drop_sublist _ _
theorem B3{a:α}{as new:List α}{j l:Nat}(hl:j≤l)(h:new[l]?=some a):lcs as (new.drop (l+1))+1≤lcs (a::as) (new.drop j):=by
 have:lcs (a::as) (new.drop l)≤lcs (a::as) (new.drop j):=y_ (aax _) (za hl)
 rw[pV h,lcs,aap rfl] at this
 exact this
theorem zb{a:α}{as new:List α}{j k:Nat}(h:i4 a new j=some k)(tO:lcs as (new.drop (k+1))+1≠lcs (a::as) (new.drop j)):lcs (a::as) (new.drop j)=lcs as (new.drop j):=by
 obtain⟨RH,hk,L7⟩:=ky h
 have h1:=B3 (as:=as) RH hk
 have h2:lcs as (new.drop j)≤lcs (a::as) (new.drop j):=y_ (aa_ a as) (aax _)
 obtain⟨hs,s,c,d,e⟩:=j3 (a::as) (new.drop j)
 rcases lE c with c2|⟨t,es,c2⟩
 · have:=(j3 as (new.drop j)).1 s c2 d;omega
 · exfalso
   subst es
   have key:∀(n:Nat)(j:Nat),k-j=n→j≤k→(∀l,j≤l→l<k→new[l]?≠some a)→(a::t).Sublist (new.drop j)→t.Sublist (new.drop (k+1)):=by
     intro n
     induction n with
     | zero=>
       intro j e1 e2 _ d
       have:j=k:=by omega
       subst this
       rw[pV hk] at d
       rcases lE d with d|⟨u,e,d⟩
       · exact(aa_ a t).trans d
       · cases e;exact d
     | succ n ih=>
       intro j e1 e2 hm d
       have hj:j<new.length:=by
         have:=(RL.mp hk).1;omega
       rw[aaL hj] at d
       rcases lE d with d|⟨u,e,_⟩
       · exact ih (j+1) (by omega) (by omega) (fun l hl=>hm l (by omega)) d
       · exfalso
         have e0:a=new[j]:=(List.cons.inj e).1
         exact hm j (UU _) (by omega) (by rw[UR hj,←e0])
   have ht:=key _ j rfl RH L7 d
   have:=(j3 as (new.drop (k+1))).1 t c2 ht
   rw[XT] at e
   omega
theorem Hx{a:α}{as new:List α}{j:Nat}(h:i4 a new j=none):lcs (a::as) (new.drop j)=lcs as (new.drop j):=by
 refine Jx fun m=>?_
 obtain⟨l,hl⟩:=aaI.mp m
 rw[abA] at hl
 exact nr h (j+l) (Nat.le_add_right _ _) hl
theorem lF(new:List α):∀(old:List α)(i j:Nat),(o_ new i old j).length=lcs old (new.drop j)
 | [],i,j=>by rw[o_,Gu];rfl
 | a::as,i,j=>by
   unfold o_
   cases h:i4 a new j with
   | none=>simp only;rw[lF new as,Hx h]
   | some k=>
     simp only
     by_cases hc:lcs as (new.drop (k+1))+1=lcs (a::as) (new.drop j)
     · rw[aap hc,XT,lF new as];exact hc
     · rw[aak hc,lF new as,zb h hc]
inductive Good(old new:List α):Nat→Nat→List (Nat×Nat)→Prop
 | nil (i j):Good old new i j []
 | cons {i j p q r} (h1:i≤p) (h2:j≤q) (a:α) (e1:old[p]?=some a) (e2:new[q]?=some a)
     (h3:∀l m,i≤l→l≤p→j≤m→(l<p∨m<q)→∀b,old[l]?=some b→new[m]?=some b→¬r.length≤lcs (old.drop (l+1)) (new.drop (m+1)))
     (t:Good old new (p+1) (q+1) r):Good old new i j ((p,q)::r)
theorem Good.back{old new:List α}{i j:Nat}{a:α}{r:List (Nat×Nat)}(ha:old[i]?=some a)(hl:r.length=lcs (old.drop (i+1)) (new.drop j))(hn:∀m,j≤m→new[m]?=some a→lcs (old.drop (i+1)) (new.drop (m+1))+1≠r.length∧lcs (old.drop (i+1)) (new.drop (m+1))+1≤r.length)
   (h:Good old new (i+1) j r):Good old new i j r:=by
 cases h with
 | nil=>exact .nil _ _
 | @cons _ _ p q r h1 h2 b e1 e2 h3 t=>
   refine .cons (by omega) h2 b e1 e2 (fun l m RI EN hm lu c c1 c2 hle=>?_) t
   by_cases e:l=i
   · subst e
     rw[ha] at c1
     cases c1
     have z:=hn m hm c2
     rw[XT] at z
     omega
   · exact h3 l m (by omega) EN hm lu c c1 c2 hle
theorem pW{old new:List α}:∀(rest:List α)(i j:Nat),old.drop i=rest→Good old new i j (o_ new i rest j)
 | [],i,j,_=>by rw[o_];exact .nil _ _
 | a::as,i,j,e=>by
   have ha:old[i]?=some a:=by
     have:(old.drop i)[0]?=some a:=by rw[e];rfl
     rwa [abA,Nat.add_zero] at this
   have e':old.drop (i+1)=as:=by
     have:=pV ha;rw[e] at this;exact(List.cons.inj this).2.symm
   have L:=lF new as (i+1) j
   unfold o_
   cases h:i4 a new j with
   | none=>
     simp only
     refine Good.back ha (by rw[L,e']) (fun m hm q=>absurd q (nr h m hm)) (pW as (i+1) j e')
   | some k=>
     obtain⟨RH,hk,L7⟩:=ky h
     simp only
     by_cases hc:lcs as (new.drop (k+1))+1=lcs (a::as) (new.drop j)
     · rw[aap hc]
       refine .cons (UU _) RH a ha hk (fun l m RI EN hm lu b c1 c2 _=>?_) (pW as (i+1) (k+1) e')
       have:l=i:=by omega
       subst this
       rw[ha] at c1
       cases c1
       exact L7 m hm (by omega) c2
     · rw[aak hc]
       have S:=zb h hc
       refine Good.back ha (by rw[L,e']) (fun m hm q=>?_) (pW as (i+1) j e')
       rw[L,e',←S]
       have h1:=B3 (as:=as) hm q
       refine⟨fun z=>?_,h1⟩
       have hkm:k≤m:=by
         rcases Nat.lt_or_ge m k with z'|z'
         · exact absurd q (L7 m hm z')
         · exact z'
       have h2:lcs as (new.drop (m+1))≤lcs as (new.drop (k+1)):=y_ (aax _) (za (by omega))
       have h3:=B3 (as:=as) RH hk
       omega
theorem Hy(old new:List α):Good old new 0 0 (kept old new):=pW old 0 0 rfl
theorem w9(old new:List α):(kept old new).length=lcs old new:=lF new old 0 0
def pre(old new:List α)(i k:Nat):Nat:=lcs (old.take i) (new.take k)
def vX(old new:List α)(i j:Nat):Nat:=lcs (old.drop i) (new.drop j)
theorem yv{old new:List α}{i j:Nat}(h:old.length≤i∨new.length≤j):vX old new i j=0:=by
 unfold vX
 rcases h with h|h
 · rw[List.drop_eq_nil_of_le h,Gu]
 · rw[List.drop_eq_nil_of_le h,Lp]
theorem Lq{old new:List α}{i j:Nat}{a b:α}(ha:old[i]?=some a)(hb:new[j]?=some b) :
   vX old new i j=if b=a then vX old new (i+1) (j+1)+1 else max (vX old new (i+1) j) (vX old new i (j+1)):=by
 unfold vX
 rw[pV ha,pV hb,lcs,←pV ha,←pV hb]
end
end K01
namespace PM
open PySem
abbrev Nm:=Str×Nat
structure Ln where
 nm:Nm
 tx:Str
 up:Option Nm
 lo:Option Nm
 deriving DecidableEq
structure Pt where
 nm:Str
 file:Option Str
 iD:List Ln
 j4:List Nm
 other:Option Str
 deriving DecidableEq
def qA:List Pt→List Str→List Pt
 | [],_=>[]
 | p::r,t=>if p.nm∈t then qA r t else p::qA r (match p.other with|some o=>o::t|none=>t)
def live(ps:List Pt):List Pt:=(qA ps.reverse []).reverse
def g_(ps:List Pt)(f:Str):List Ln:=(ps.filter fun p=>p.file=some f).flatMap (·.iD)
def gone(ps:List Pt):List Nm:=ps.flatMap (·.j4)
def nu(ps:List Pt)(f:Str):List Ln:=(g_ (live ps) f).filter fun l=>l.nm∉gone (live ps)
theorem vY:∀(ps:List Pt)(t:List Str),(qA ps t).Sublist ps
 | [],_=>aax _
 | p::r,t=>by
   unfold qA
   split
   · exact(vY r t).cons p
   · exact(vY r _).cons_cons p
theorem DT(ps:List Pt):(live ps).Sublist ps:=by
 have:=(vY ps.reverse []).reverse
 rwa [List.reverse_reverse] at this
theorem B4{ps qs:List Pt}(h:ps.Sublist qs)(f:Str):(g_ ps f).Sublist (g_ qs f):=by
 unfold g_
 have h:=h.filter (fun p=>decide (p.file=some f))
 generalize ps.filter _=a at h
 generalize qs.filter _=b at h
 induction h with
 | slnil=>exact aax _
 | cons x _ ih=>rw[aay];exact ih.trans (aaW _ _)
 | cons_cons x _ ih=>rw[aay,aay];exact(aax _).append ih
theorem lG(ps:List Pt)(f:Str):(nu ps f).Sublist (g_ ps f):=
 aaN.trans (B4 (DT ps) f)
def Sa(ls:List Ln)(m n:Nm):Prop:=∃l∈ls,(l.nm=n∧l.up=some m)∨(l.nm=m∧l.lo=some n)
inductive Ah(ls:List Ln):Nm→Nm→Prop
 | one {m n}:Sa ls m n→Ah ls m n
 | Pj {m k n}:Ah ls m k→Sa ls k n→Ah ls m n
theorem Ah.last{ls:List Ln}{m n:Nm}:Ah ls m n↔Sa ls m n∨∃k,Ah ls m k∧Sa ls k n:=by
 constructor
 · intro h
   cases h with
   | one x=>exact .inl x
   | Pj a x=>exact .inr ⟨_,a,x⟩
 · rintro(x|⟨k,a,x⟩)
   · exact .one x
   · exact .Pj a x
def Rk(ls:List Ln)(rk:Nm→Nat):Prop:=∀l∈ls,(∀m,l.up=some m→rk m<rk l.nm)∧(∀m,l.lo=some m→rk l.nm<rk m)
def Jy(ls:List Ln):Prop:=∃rk,Rk ls rk
theorem Rk.sa{ls:List Ln}{rk:Nm→Nat}(r:Rk ls rk){m n:Nm}(h:Sa ls m n):rk m<rk n:=by
 obtain⟨l,hl,⟨rfl,e⟩|⟨rfl,e⟩⟩:=h
 · exact(r l hl).1 m e
 · exact(r l hl).2 n e
theorem Rk.ah{ls:List Ln}{rk:Nm→Nat}(r:Rk ls rk){m n:Nm}(h:Ah ls m n):rk m<rk n:=by
 induction h with
 | one x=>exact r.sa x
 | Pj _ x ih=>exact Nat.lt_trans ih (r.sa x)
def pX(ls:List Ln):Prop:=∀l∈ls,(∀m,l.up=some m→m∈ls.map (·.nm))∧(∀m,l.lo=some m→m∈ls.map (·.nm))
theorem pX.sa{ls:List Ln}(c:pX ls){m n:Nm}(h:Sa ls m n):m∈ls.map (·.nm)∧n∈ls.map (·.nm):=by
 obtain⟨l,hl,⟨rfl,e⟩|⟨rfl,e⟩⟩:=h
 · exact⟨(c l hl).1 m e,aab hl⟩
 · exact⟨aab hl,(c l hl).2 n e⟩
theorem pX.ah{ls:List Ln}(c:pX ls){m n:Nm}(h:Ah ls m n):m∈ls.map (·.nm)∧n∈ls.map (·.nm):=by
 induction h with
 | one x=>exact c.sa x
 | Pj _ x ih=>exact⟨ih.1,(c.sa x).2⟩
section
open Classical
variable(lt:Nm→Nm→Prop)
noncomputable def free(ls:List Ln)(l:Ln):Bool:=decide (∀o∈ls,¬lt o.nm l.nm)
noncomputable def tf:Nat→List Ln→List Ln
 | 0,_=>[]
 | n+1,ls=>match ls.find? (free lt ls) with
   | none=>[]
   | some l=>l::tf n (ls.filter fun o=>o.nm≠l.nm)
noncomputable def rowOf(ls:List Ln):List Ln:=tf lt ls.length ls
def ltAt(row:List Ln)(i j:Nat):Prop:=∃a b,row[i]?=some a∧row[j]?=some b∧lt a.nm b.nm
noncomputable def kR(row:List Ln):List (Nat×Nat):=
 (List.range row.length).flatMap fun i=>((List.range' (i+1) (row.length-(i+1))).filter fun j=>decide (¬ltAt lt row i j)).map fun j=>(i,j)
variable{lt}
theorem w_{rk:Nm→Nat}(hr:∀m n,lt m n→rk m<rk n):∀(ls:List Ln),ls≠[]→∃l,ls.find? (free lt ls)=some l:=by
 intro ls hn
 have least:∀(xs:List Ln),xs≠[]→∃l∈xs,∀o∈xs,rk l.nm≤rk o.nm:=by
   intro xs
   induction xs with
   | nil=>intro h;exact absurd rfl h
   | cons x r ih=>
     intro _
     by_cases h:r=[]
     · subst h;exact⟨x,by simp,fun o ho=>by simp at ho;rw[ho];exact UU _⟩
     · obtain⟨l,hl,hm⟩:=ih h
       by_cases hx:rk x.nm≤rk l.nm
       · refine⟨x,by simp,fun o ho=>?_⟩
         rcases XU.mp ho with rfl|ho
         · exact UU _
         · exact aac hx (hm o ho)
       · refine⟨l,aag _ hl,fun o ho=>?_⟩
         rcases XU.mp ho with rfl|ho
         · omega
         · exact hm o ho
 obtain⟨l,hl,hm⟩:=least ls hn
 have hf:free lt ls l=true:=UW fun o ho lu=>by have:=hr _ _ lu;have:=hm o ho;omega
 cases e:ls.find? (free lt ls) with
 | some x=>exact⟨x,rfl⟩
 | none=>exact absurd hf (by have:=List.find?_eq_none.mp e l hl;simpa using this)
theorem pb{ls:List Ln}(nd:(ls.map (·.nm)).Nodup){l:Ln}(hl:l∈ls):(ls.filter fun o=>o.nm≠l.nm).length+1=ls.length:=by
 induction ls with
 | nil=>cases hl
 | cons x r ih=>
   rw[aao,aaQ] at nd
   rcases XU.mp hl with rfl|hl
   · have e:r.filter (fun o=>decide (o.nm≠l.nm))=r:=List.filter_eq_self.mpr fun o ho=>UW fun z=>nd.1 (z▸aab ho)
     rw[aaf (by simp),e,XT]
   · have hx:x.nm≠l.nm:=fun z=>nd.1 (z▸aab hl)
     rw[XW (by simpa using hx),XT,XT,ih nd.2 hl]
theorem x5{ls:List Ln}(nd:(ls.map (·.nm)).Nodup)(p:Ln→Bool):((ls.filter p).map (·.nm)).Nodup:=(aaN.map _).nodup nd
theorem zc{rk:Nm→Nat}(hr:∀m n,lt m n→rk m<rk n):∀(n:Nat)(ls:List Ln),n=ls.length→(ls.map (·.nm)).Nodup→(tf lt n ls).Perm ls
 | 0,ls,e,_=>by
   have:ls=[]:=aaE.mp e.symm
   subst this;exact List.Perm.refl _
 | n+1,ls,e,nd=>by
   have hn:ls≠[]:=fun z=>by subst z;cases e
   obtain⟨l,hf⟩:=w_ hr ls hn
   have hl:l∈ls:=List.mem_of_find?_eq_some hf
   unfold tf
   rw[hf]
   have hlen:=pb nd hl
   have ih:=zc hr n (ls.filter fun o=>o.nm≠l.nm) (by omega) (x5 nd _)
   refine(ih.cons l).trans ?_
   clear ih hf hlen e hn
   induction ls with
   | nil=>cases hl
   | cons x r ih=>
     rw[aao,aaQ] at nd
     rcases XU.mp hl with rfl|hl
     · have e:r.filter (fun o=>decide (o.nm≠l.nm))=r:=List.filter_eq_self.mpr fun o ho=>UW fun z=>nd.1 (z▸aab ho)
       rw[aaf (by simp),e]
     · have hx:x.nm≠l.nm:=fun z=>nd.1 (z▸aab hl)
       rw[XW (by simpa using hx)]
       exact(List.Perm.swap _ _ _).trans ((ih nd.2 hl).cons x)
theorem Fo{rk:Nm→Nat}(hr:∀m n,lt m n→rk m<rk n){ls:List Ln}(nd:(ls.map (·.nm)).Nodup):(rowOf lt ls).Perm ls:=zc hr _ ls rfl nd
end
def DU(sf:Nm→List Nm)(S:List Nm)(x:Nm):List Nm:=(sf x).filter fun y=>y∉S
inductive Run(sf:Nm→List Nm)(B:Nat):Nat→List Nm→List Nm→Prop
 | nil {S}:Run sf B 0 [] S
 | skip {n x st S}:x∈S→(x::st).length≤B→Run sf B n st S→Run sf B (n+1) (x::st) S
 | fin {n x st S}:x∉S→DU sf S x=[]→(x::st).length≤B→Run sf B n st (S++[x])→Run sf B (n+1) (x::st) S
 | push {n x st S}:x∉S→DU sf S x≠[]→(x::st).length≤B→Run sf B n ((DU sf S x).reverse++x::st) S→Run sf B (n+1) (x::st) S
theorem B5{sf:Nm→List Nm}{S:List Nm}{x:Nm}:DU sf S x=[]↔∀y∈sf x,y∈S:=by
 unfold DU
 rw[List.filter_eq_nil_iff]
 exact⟨fun h y hy=>by simpa using h y hy,fun h y hy=>by simpa using h y hy⟩
theorem Lr{sf:Nm→List Nm}{B N:Nat}(cr:Nm→Nat)(hN:∀x,(sf x).length≤N)(hc:∀x y,y∈sf x→cr y<cr x):∀(k:Nat)(x:Nm),cr x≤k→∀(st S:List Nm),st.length+1+N*cr x≤B→
   (∀S',(∀y∈S,y∈S')→x∈S'→∃n,Run sf B n st S')→∃n,Run sf B n (x::st) S:=by
 intro k
 induction k with
 | zero=>
   intro x hx st S hB go
   by_cases hm:x∈S
   · obtain⟨n,r⟩:=go S (fun _ h=>h) hm
     exact⟨n+1,.skip hm (by rw[XT];omega) r⟩
   · have e:DU sf S x=[]:=B5.mpr fun y hy=>by have:=hc x y hy;omega
     obtain⟨n,r⟩:=go (S++[x]) (fun _ h=>aal _ h) (by simp)
     exact⟨n+1,.fin hm e (by rw[XT];omega) r⟩
 | succ k ih=>
   intro x hx st S hB go
   have hlen:(x::st).length≤B:=by rw[XT];omega
   by_cases hm:x∈S
   · obtain⟨n,r⟩:=go S (fun _ h=>h) hm
     exact⟨n+1,.skip hm hlen r⟩
   · by_cases e:DU sf S x=[]
     · obtain⟨n,r⟩:=go (S++[x]) (fun _ h=>aal _ h) (by simp)
       exact⟨n+1,.fin hm e hlen r⟩
     ·
       have many:∀(ms:List Nm)(S0:List Nm),(∀y∈ms,y∈sf x)→ms.length≤N→(∀S',(∀y∈S0,y∈S')→(∀y∈ms,y∈S')→∃n,Run sf B n (x::st) S')→∃n,Run sf B n (ms++x::st) S0:=by
         intro ms
         induction ms with
         | nil=>intro S0 _ _ h;exact h S0 (fun _ z=>z) (fun y hy=>by cases hy)
         | cons m r ihm=>
           intro S0 hs hl h
           have Px:=hc x m (hs m aan)
           rw[XT] at hl
           refine ih m (by omega) (r++x::st) S0 ?_ fun S1 h1 VC=>ihm S1 (fun y hy=>hs y (aag _ hy)) (by omega) fun S2 h2 h3=>h S2 (fun y hy=>h2 y (h1 y hy)) fun y hy=>?_
           · rw[VO,XT]
             have:N*cr m+N≤N*cr x:=by rw[←Nat.mul_succ];exact Nat.mul_le_mul_left N Px
             omega
           · rcases XU.mp hy with z|z
             · rw[z];exact h2 m VC
             · exact h3 y z
       have yj:(DU sf S x).length≤N:=aac (aaH _ _) (hN x)
       have cont:∀S',(∀y∈S,y∈S')→(∀y∈(DU sf S x).reverse,y∈S')→∃n,Run sf B n (x::st) S':=fun S' h1 h2=>by
         by_cases OO:x∈S'
         · obtain⟨n,r⟩:=go S' h1 OO
           exact⟨n+1,.skip OO hlen r⟩
         · have e':DU sf S' x=[]:=B5.mpr fun y hy=>by
             by_cases Tc:y∈S
             · exact h1 y Tc
             · exact h2 y (List.mem_reverse.mpr (aaq.mpr ⟨hy,by simpa using Tc⟩))
           obtain⟨n,r⟩:=go (S'++[x]) (fun y hy=>aal _ (h1 y hy)) (by simp)
           exact⟨n+1,.fin OO e' hlen r⟩
       obtain⟨n,r⟩:=many (DU sf S x).reverse S (fun y hy=>(aaq.mp (List.mem_reverse.mp hy)).1) (by rw[aa7];exact yj) cont
       exact⟨n+1,.push hm e hlen r⟩
def Pk(ls:List Ln)(rk:Nm→Nat)(n:Nm):Nat:=(ls.filter fun l=>rk l.nm<rk n).length
theorem NM(ls:List Ln)(rk:Nm→Nat)(n:Nm):Pk ls rk n≤ls.length:=aaH _ _
theorem NN{ls:List Ln}{rk:Nm→Nat}{m n:Nm}(hm:m∈ls.map (·.nm))(h:rk m<rk n):Pk ls rk m<Pk ls rk n:=by
 unfold Pk
 have mono:∀{a b:Ln→Bool} {xs:List Ln},(∀x∈xs,a x=true→b x=true)→(xs.filter a).length≤(xs.filter b).length:=by
   intro a b xs GV
   induction xs with
   | nil=>exact UU _
   | cons x r ih=>
     have ih:=ih fun y hy=>GV y (aag _ hy)
     by_cases ha:a x=true
     · rw[XW ha,XW (GV x aan ha),XT,XT];omega
     · rw[aaf ha]
       by_cases hb:b x=true
       · rw[XW hb,XT];omega
       · rw[aaf hb];exact ih
 obtain⟨l,hl,rfl⟩:=aaz.mp hm
 obtain⟨a,b,rfl⟩:=List.append_of_mem hl
 rw[aaF,aaF,VO,VO]
 rw[aaf (by simp),XW (by simpa using h),XT]
 have h1:=mono (a:=fun x:Ln=>decide (rk x.nm<rk l.nm)) (b:=fun x=>decide (rk x.nm<rk n)) (xs:=a) fun x _ hx=>by simp at hx ⊢;omega
 have h2:=mono (a:=fun x:Ln=>decide (rk x.nm<rk l.nm)) (b:=fun x=>decide (rk x.nm<rk n)) (xs:=b) fun x _ hx=>by simp at hx ⊢;omega
 omega
theorem len_sub{xs ys:List Nm}(nd:xs.Nodup)(h:∀x∈xs,x∈ys):xs.length≤ys.length:=by
 induction xs generalizing ys with
 | nil=>exact aaD _
 | cons a r ih=>
   rw[aaQ] at nd
   obtain⟨p,q,rfl⟩:=List.append_of_mem (h a aan)
   have:=ih (ys:=p++q) nd.2 fun z hz=>by
     have:=h z (aag _ hz)
     rcases aaa.mp this with w|w
     · exact aal _ w
     · rcases XU.mp w with w|w
       · exact absurd (w▸hz) nd.1
       · exact aaC _ w
   rw[VO] at this
   rw[XT,VO,XT]
   omega
theorem Jz{ls:List Ln}(cl:pX ls)(tp:Jy ls){sf:Nm→List Nm}(hs:∀n,(sf n).Nodup∧∀m,m∈sf n↔Sa ls m n)(x:Nm)(S:List Nm):∃n,Run sf (1+ls.length*ls.length) n [x] S:=by
 obtain⟨rk,hr⟩:=tp
 have VH:∀n,(sf n).length≤ls.length:=fun n=>by
   have:=len_sub (ys:=ls.map (·.nm)) (hs n).1 fun y hy=>(cl.sa (((hs n).2 y).mp hy)).1
   rw[RF] at this
   exact this
 refine Lr (N:=ls.length) (Pk ls rk) VH (fun x y hy=>?_) _ x (UU _) [] S ?_ fun S' _ _=>⟨0,.nil⟩
 · have h:=((hs x).2 y).mp hy
   exact NN (cl.sa h).1 (hr.sa h)
 · have:=Nat.mul_le_mul_left ls.length (NM ls rk x)
   show 0+1+ls.length*Pk ls rk x≤1+ls.length*ls.length
   omega
def Hz(n m:Nat)(qs:List (Nat×Nat)):Prop:=qs.Pairwise (fun a b=>a.1<b.1∧a.2<b.2)∧∀q∈qs,q.1<n∧q.2<m
theorem HA{α:Type}[DecidableEq α]{old new:List α}{i j:Nat}{qs:List (Nat×Nat)}(g:K01.Good old new i j qs):Hz old.length new.length qs∧∀q∈qs,i≤q.1∧j≤q.2:=by
 induction g with
 | nil=>exact⟨⟨List.Pairwise.nil,fun q hq=>by cases hq⟩,fun q hq=>by cases hq⟩
 | @cons i j p q r h1 h2 a e1 e2 h3 t ih=>
   obtain⟨⟨h4,h5⟩,h6⟩:=ih
   refine⟨⟨List.Pairwise.cons (fun b hb=>?_) h4,fun b hb=>?_⟩,fun b hb=>?_⟩
   · have:=h6 b hb
     exact⟨by show p<b.1;omega,by show q<b.2;omega⟩
   · rcases XU.mp hb with rfl|hb
     · exact⟨(RL.mp e1).1,(RL.mp e2).1⟩
     · exact h5 b hb
   · rcases XU.mp hb with rfl|hb
     · exact⟨h1,h2⟩
     · have:=h6 b hb
       omega
theorem sI{α:Type}[DecidableEq α](old new:List α):Hz old.length new.length (K01.kept old new):=(HA (K01.Hy old new)).1
def mF(row:List Ln):List (Nat×Nat)→Nat→Option Nm
 | [],_=>none
 | q::r,s=>if q.2=s then(row[q.1]?).map (·.nm) else mF row r s
def tV(row:List Ln)(qs:List (Nat×Nat)):List Nm:=qs.filterMap fun q=>(row[q.1]?).map (·.nm)
theorem B6{row:List Ln}{qs:List (Nat×Nat)}{s:Nat}{m:Nm}(h:mF row qs s=some m):∃q∈qs,q.2=s∧∃l,row[q.1]?=some l∧l.nm=m:=by
 induction qs with
 | nil=>cases h
 | cons q r ih=>
   unfold mF at h
   by_cases e:q.2=s
   · rw[aap e] at h
     obtain⟨l,hl,e2⟩:=aaA.mp h
     exact⟨q,aan,e,l,hl,e2⟩
   · rw[aak e] at h
     obtain⟨q',hq,z⟩:=ih h
     exact⟨q',aag _ hq,z⟩
theorem B7{row:List Ln}{m:Nat}:∀{qs:List (Nat×Nat)},Hz row.length m qs→∀s,(mF row qs s).isSome=decide (s∈qs.map (·.2))
 | [],_,s=>rfl
 | q::r,h,s=>by
   have hr:Hz row.length m r:=⟨(List.pairwise_cons.mp h.1).2,fun x hx=>h.2 x (aag _ hx)⟩
   unfold mF
   by_cases e:q.2=s
   · rw[aap e,UR (h.2 q aan).1,UW (by rw[aao,e];exact aan)];rfl
   · rw[aak e,B7 hr s,aao]
     by_cases z:s∈r.map (·.2)
     · rw[UW z,UW (aag _ z)]
     · rw[XX z,XX (fun w=>(XU.mp w).elim (fun w=>e w.symm) z)]
theorem Ls{row:List Ln}{qs:List (Nat×Nat)}{m:Nat}{rk:Nm→Nat}(h:Hz row.length m qs)(hr:row.Pairwise fun a b=>rk a.nm<rk b.nm){s t:Nat}{a b:Nm}(hs:mF row qs s=some a)(ht:mF row qs t=some b)(zZ:s<t):rk a<rk b:=by
 obtain⟨q1,h1,e1,l1,r1,rfl⟩:=B6 hs
 obtain⟨q2,h2,e2,l2,r2,rfl⟩:=B6 ht
 have lu:q1.1<q2.1:=by
   obtain⟨i,hi,ei⟩:=List.mem_iff_getElem.mp h1
   obtain⟨j,hj,ej⟩:=List.mem_iff_getElem.mp h2
   have hp:=abp.mp h.1
   rcases Nat.lt_trichotomy i j with z|z|z
   · have:=hp i j hi hj z;rw[ei,ej] at this;exact this.1
   · subst z;rw[ei] at ej;subst ej;omega
   · have:=hp j i hj hi z;rw[ei,ej] at this;omega
 obtain⟨g1,w1⟩:=RL.mp r1
 obtain⟨g2,w2⟩:=RL.mp r2
 have:=abp.mp hr _ _ g1 g2 lu
 rw[w1,w2] at this
 exact this
def Lu(kn:Nat→Option Nm):Nat→Nat→Option Nm
 | 0,_=>none
 | k+1,i=>match kn (i+1) with|some m=>some m|none=>Lu kn k (i+1)
def sT(p:Str)(kn:Nat→Option Nm):Nat→Nat→Option Nm→List Str→List Ln
 | _,_,_,[]=>[]
 | i,j,u,t::r=>match kn i with
   | some m=>sT p kn (i+1) j (some m) r
   | none=>⟨(p,j),t,u,Lu kn r.length i⟩::sT p kn (i+1) (j+1) (some (p,j)) r
def kA(p:Str)(texts:List Str)(kn:Nat→Option Nm):List Ln:=sT p kn 0 0 none texts
def mx(p f:Str)(row:List Ln)(texts:List Str):Pt:=
 ⟨p,some f,kA p texts (mF row (K01.kept (row.map (·.tx)) texts)),(row.filter fun l=>l.nm∉tV row (K01.kept (row.map (·.tx)) texts)).map (·.nm),none⟩
theorem uI(p:Str)(kn:Nat→Option Nm):∀(r:List Str)(i j:Nat)(u:Option Nm),(sT p kn i j u r).map (·.nm)=(List.range' j (sT p kn i j u r).length).map fun k=>(p,k)
 | [],_,_,_=>rfl
 | t::r,i,j,u=>by
   unfold sT
   cases h:kn i with
   | some m=>exact uI p kn r (i+1) j (some m)
   | none=>
     simp only [aao,XT,abK]
     rw[uI p kn r (i+1) (j+1) (some (p,j))]
theorem zd(p:Str)(kn:Nat→Option Nm):∀(r:List Str)(i j:Nat)(u:Option Nm),(sT p kn i j u r).length=((List.range' i r.length).filter fun k=>(kn k).isNone).length
 | [],_,_,_=>rfl
 | t::r,i,j,u=>by
   unfold sT
   rw[XT,abK]
   cases h:kn i with
   | some m=>rw[aaf (by simp[h])];exact zd p kn r (i+1) j (some m)
   | none=>rw[XW (by simp[h]),XT];simp only [XT];rw[zd p kn r (i+1) (j+1) (some (p,j))]
theorem B8{kn:Nat→Option Nm}{m:Nm}:∀{k i:Nat},Lu kn k i=some m→∃t,i<t∧t≤i+k∧kn t=some m
 | 0,_,h=>by cases h
 | k+1,i,h=>by
   unfold Lu at h
   cases e:kn (i+1) with
   | some m'=>
     rw[e] at h
     cases h
     exact⟨i+1,by omega,by omega,e⟩
   | none=>
     rw[e] at h
     obtain⟨t,h1,h2,h3⟩:=B8 (k:=k) (i:=i+1) h
     exact⟨t,by omega,by omega,h3⟩
theorem yw{p:Str}{kn:Nat→Option Nm}:∀(r:List Str)(i j:Nat)(u:Option Nm),∀l∈sT p kn i j u r,∀m,l.up=some m∨l.lo=some m→(u=some m∨∃t,kn t=some m)∨m∈(sT p kn i j u r).map (·.nm)
 | [],_,_,_,l,hl,_,_=>by cases hl
 | t::r,i,j,u,l,hl,m,hm=>by
   unfold sT at hl ⊢
   cases h:kn i with
   | some m'=>
     rw[h] at hl
     rcases yw r (i+1) j (some m') l hl m hm with(z|z)|z
     · exact .inl (.inr ⟨i,by rw[h];exact z⟩)
     · exact .inl (.inr z)
     · exact .inr z
   | none=>
     rw[h] at hl
     rcases XU.mp hl with rfl|hl
     · rcases hm with hm|hm
       · exact .inl (.inl hm)
       · obtain⟨t,_,_,e⟩:=B8 hm
         exact .inl (.inr ⟨t,e⟩)
     · rcases yw r (i+1) (j+1) (some (p,j)) l hl m hm with(z|z)|z
       · cases z
         exact .inr (by rw[aao];exact aan)
       · exact .inl (.inr z)
       · exact .inr (aag _ z)
def JA(rk:Nm→Nat)(kn:Nat→Option Nm):Nat→Nat
 | 0=>0
 | i+1=>match kn i with|some m=>rk m+1|none=>JA rk kn i
def UX(kn:Nat→Option Nm)(n j:Nat):Nat:=(((List.range n).filter fun k=>(kn k).isNone)[j]?).getD 0
def Fp(rk:Nm→Nat)(kn:Nat→Option Nm)(p:Str)(n:Nat)(x:Nm):Nat:=if x.1=p then JA rk kn (UX kn n x.2)*(n+1)+x.2+1 else(rk x+1)*(n+1)
theorem JB{rk:Nm→Nat}{kn:Nat→Option Nm}(hk:∀s t a b,kn s=some a→kn t=some b→s<t→rk a<rk b):∀i t b,kn t=some b→i≤t→JA rk kn i≤rk b
 | 0,_,_,_,_=>aaD _
 | i+1,t,b,h,hi=>by
   unfold JA
   cases e:kn i with
   | some m=>exact hk i t m b e h (by omega)
   | none=>exact JB hk i t b h (by omega)
theorem NO{kn:Nat→Option Nm}{n i:Nat}(hi:i<n)(h:kn i=none):UX kn n ((List.range i).filter fun k=>(kn k).isNone).length=i:=by
 unfold UX
 have e:List.range n=List.range i++i::List.range' (i+1) (n-(i+1)):=by
   have h1:List.range n=List.range i++(List.range' i (n-i)):=by
     have:=List.range'_append_1 (s:=0) (m:=i) (n:=n-i)
     rw[Nat.zero_add,show i+(n-i)=n by omega] at this
     rw[List.range_eq_range',List.range_eq_range',this]
   rw[h1,show n-i=(n-(i+1))+1 by omega,abK]
 rw[e,aaF,XW (by simp[h]),aa4 (UU _),Nat.sub_self]
 rfl
theorem B9{rk:Nm→Nat}{kn:Nat→Option Nm}{p:Str}{n:Nat}(hk:∀s t a b,kn s=some a→kn t=some b→s<t→rk a<rk b)(hp:∀s a,kn s=some a→a.1≠p) :
   ∀(r:List Str)(i j:Nat)(u:Option Nm),i+r.length=n→j=((List.range i).filter fun k=>(kn k).isNone).length→(∀m,u=some m→Fp rk kn p n m≤JA rk kn i*(n+1)+j)→
     Rk (sT p kn i j u r) (Fp rk kn p n)
 | [],_,_,_,_,_,_=>fun l hl=>by cases hl
 | t::r,i,j,u,hn,hj,hu=>by
   rw[XT] at hn
   have Kh:i<n:=by omega
   have Ic:j≤i:=by rw[hj];exact aac (aaH _ _) (by rw[abH];exact UU _)
   have e1:(List.range (i+1)).filter (fun k=>(kn k).isNone)=(List.range i).filter (fun k=>(kn k).isNone)++if(kn i).isNone then[i] else[]:=by
     rw[abF,aaF]
     congr 1
     cases h:(kn i).isNone<;>simp[h]
   unfold sT
   cases h:kn i with
   | some m=>
     refine B9 hk hp r (i+1) j (some m) (by omega) (by rw[e1,h];simpa using hj) fun m' e=>?_
     cases e
     unfold Fp
     rw[aak (hp i m h),JA.eq_2,h]
     show(rk m+1)*(n+1)≤(rk m+1)*(n+1)+j
     omega
   | none=>
     have OP:Fp rk kn p n (p,j)=JA rk kn i*(n+1)+j+1:=by
       unfold Fp
       rw[aap rfl,hj,NO Kh h]
     have hb:JA rk kn (i+1)=JA rk kn i:=by rw[JA.eq_2,h]
     intro l hl
     rcases XU.mp hl with rfl|hl
     · refine⟨fun m hm=>?_,fun m hm=>?_⟩
       · have:=hu m hm
         show Fp rk kn p n m<Fp rk kn p n (p,j)
         omega
       · obtain⟨t',Yz,VJ,e⟩:=B8 hm
         show Fp rk kn p n (p,j)<Fp rk kn p n m
         have hle:=JB hk i t' m e (by omega)
         rw[OP]
         unfold Fp
         rw[aak (hp t' m e)]
         have h1:JA rk kn i*(n+1)≤rk m*(n+1):=Nat.mul_le_mul_right _ hle
         have h2:(rk m+1)*(n+1)=rk m*(n+1)+(n+1):=Nat.succ_mul _ _
         omega
     · refine B9 hk hp r (i+1) (j+1) (some (p,j)) (by omega) (by rw[e1,h,hj];simp) (fun m' e=>?_) l hl
       cases e
       rw[OP,hb]
       omega
theorem JC{rk:Nm→Nat}{kn:Nat→Option Nm}{p:Str}(hk:∀s t a b,kn s=some a→kn t=some b→s<t→rk a<rk b)(hp:∀s a,kn s=some a→a.1≠p)(texts:List Str):Rk (kA p texts kn) (Fp rk kn p texts.length):=
 B9 hk hp texts 0 0 none (by omega) rfl fun m e=>by cases e
theorem JD{rk:Nm→Nat}{kn:Nat→Option Nm}{p:Str}{n:Nat}{ls:List Ln}(r:Rk ls rk)(h:∀l∈ls,l.nm.1≠p∧∀m,l.up=some m∨l.lo=some m→m.1≠p):Rk ls (Fp rk kn p n):=by
 intro l hl
 obtain⟨h1,h2⟩:=h l hl
 have e:∀x:Nm,x.1≠p→Fp rk kn p n x=(rk x+1)*(n+1):=fun x hx=>by unfold Fp;rw[aak hx]
 refine⟨fun m hm=>?_,fun m hm=>?_⟩
 · rw[e _ h1,e _ (h2 m (.inl hm))]
   exact Nat.mul_lt_mul_of_pos_right (Nat.succ_lt_succ ((r l hl).1 m hm)) (Nat.succ_pos _)
 · rw[e _ h1,e _ (h2 m (.inr hm))]
   exact Nat.mul_lt_mul_of_pos_right (Nat.succ_lt_succ ((r l hl).2 m hm)) (Nat.succ_pos _)
theorem DV{xs ys:List Nat}(nd:xs.Nodup)(h:∀x∈xs,x∈ys):xs.length≤ys.length:=by
 have:=len_sub (xs:=xs.map fun k=>((Str.empty,k):Nm)) (ys:=ys.map fun k=>(Str.empty,k)) (List.pairwise_map.mpr (nd.imp fun h z=>h (congrArg Prod.snd z))) fun x hx=>by
   obtain⟨k,hk,rfl⟩:=aaz.mp hx
   exact aab (h k hk)
 rwa [RF,RF] at this
theorem ze{α:Type}(p:α→Bool):∀xs:List α,(xs.filter p).length+(xs.filter fun x=>!p x).length=xs.length
 | []=>rfl
 | x::r=>by
   have:=ze p r
   cases h:p x<;>simp[h]<;>omega
theorem Gv{row:List Ln}{texts:List Str}{qs:List (Nat×Nat)}(h:Hz row.length texts.length qs)(p:Str):(kA p texts (mF row qs)).length+qs.length=texts.length:=by
 unfold kA
 rw[zd,←List.range_eq_range']
 have h2:=ze (fun k=>(mF row qs k).isNone) (List.range texts.length)
 rw[abH] at h2
 have h3:((List.range texts.length).filter fun x=>!(mF row qs x).isNone).length=qs.length:=by
   have nd:(qs.map (·.2)).Nodup:=List.pairwise_map.mpr (h.1.imp fun z e=>by omega)
   refine Nat.le_antisymm ?_ ?_
   · have:=DV (xs:=(List.range texts.length).filter fun x=>!(mF row qs x).isNone) (ys:=qs.map (·.2)) (List.nodup_range.sublist aaN) fun x hx=>by
       have h4:=(aaq.mp hx).2
       have h5:(mF row qs x).isSome=true:=by cases e:mF row qs x<;>simp[e] at h4 ⊢
       rw[B7 h] at h5
       exact aar h5
     rwa [RF] at this
   · have:=DV (xs:=qs.map (·.2)) (ys:=(List.range texts.length).filter fun x=>!(mF row qs x).isNone) nd fun x hx=>by
       refine aaq.mpr ⟨abI.mpr ?_,?_⟩
       · obtain⟨q,hq,rfl⟩:=aaz.mp hx
         exact(h.2 q hq).2
       · have h5:=B7 h x
         rw[UW hx] at h5
         cases e:mF row qs x<;>simp[e] at h5 ⊢
     rwa [RF] at this
 omega
structure Dk where
 made:List Pt
 iZ:Str→List Str
 stores:List Str
 held:Str→List Str
def named(p:Pt):List Nm:=p.j4++p.iD.flatMap fun l=>l.up.toList++l.lo.toList
def iH(p:Pt):List Str:=((named p).filter fun n=>n.1≠p.nm).map (·.1)++p.other.toList
def sJ(nd:Str→List Str)(p:Pt):List Str:=(iH p).flatMap fun y=>y::nd y
namespace Dk
def names(D:Dk):List Str:=D.made.map (·.nm)
def keep(D:Dk)(s:Str)(p:Pt):Dk:=⟨D.made++[p],fun x=>if x=p.nm then sJ D.iZ p else D.iZ x,D.stores,fun t=>if t=s then D.held s++[p.nm] else D.held t⟩
def begin(D:Dk)(s:Str):Dk:=⟨D.made,D.iZ,D.stores++[s],fun t=>if t=s then[] else D.held t⟩
def qB(D:Dk)(s:Str):List Pt:=D.made.filter fun p=>p.nm∈D.held s
def has(D:Dk)(s:Str):List Str:=D.names.filter fun x=>x∈D.held s
def nv(D:Dk)(x:Str):List Str:=D.names.filter fun y=>y∈D.iZ x
def nR(D:Dk)(s x:Str):List Str:=(D.nv x++[x]).filter fun y=>y∉D.held s
def take(D:Dk)(s x:Str):Dk:=⟨D.made,D.iZ,D.stores,fun t=>if t=s then D.held s++D.nR s x else D.held t⟩
def drop(D:Dk)(s x:Str):Dk:=⟨D.made,D.iZ,D.stores,fun t=>if t=s then(D.held s).filter (fun y=>y≠x) else D.held t⟩
noncomputable def row(D:Dk)(s f:Str):List Ln:=rowOf (Ah (g_ (D.qB s) f)) (nu (D.qB s) f)
noncomputable def AF(D:Dk)(s f:Str):List (Nat×Nat):=kR (Ah (g_ (D.qB s) f)) (D.row s f)
theorem Gw(D:Dk)(s:Str):D.has s=(D.qB s).map (·.nm):=by
 unfold has qB names
 rw[List.filter_map];rfl
end Dk
structure Inv(D:Dk):Prop where
 nd:D.names.Nodup
 HB:∀p∈D.made,p.iD.map (·.nm)=(List.range p.iD.length).map fun j=>(p.nm,j)
 refs:∀p∈D.made,∀l∈p.iD,∀m,l.up=some m∨l.lo=some m→∃q∈D.made,q.file=p.file∧m∈q.iD.map (·.nm)∧(q.nm=p.nm∨q.nm∈D.iZ p.nm)
 rank:∃rk,∀p∈D.made,Rk p.iD rk
 before:∀i p,D.made[i]?=some p→∀x∈D.iZ p.nm,x∈(D.made.take i).map (·.nm)
 trans:∀x∈D.names,∀y∈D.iZ x,∀z∈D.iZ y,z∈D.iZ x
 stN:D.stores.Nodup
 lW:∀s∈D.stores,∀x∈D.held s,x∈D.names∧∀y∈D.iZ x,y∈D.held s
 uJ:∀s∈D.stores,(D.held s).Nodup
theorem q9{p:Pt}(h:p.iD.map (·.nm)=(List.range p.iD.length).map fun j=>(p.nm,j)){m:Nm}(hm:m∈p.iD.map (·.nm)):m.1=p.nm:=by
 rw[h] at hm
 obtain⟨j,_,rfl⟩:=aaz.mp hm
 rfl
theorem Fq{ps:List Pt}(nd:(ps.map (·.nm)).Nodup)(h:∀p∈ps,p.iD.map (·.nm)=(List.range p.iD.length).map fun j=>(p.nm,j)):((ps.flatMap (·.iD)).map (·.nm)).Nodup:=by
 induction ps with
 | nil=>exact aa6
 | cons x r ih=>
   rw[aao,aaQ] at nd
   rw[aay,aam,aaU]
   refine⟨?_,ih nd.2 fun p hp=>h p (aag _ hp),fun a ha b hb e=>?_⟩
   · rw[h x aan]
     exact List.pairwise_map.mpr (List.nodup_range.imp fun z e=>z (congrArg Prod.snd e))
   · have e1:=q9 (h x aan) ha
     obtain⟨l,hl,rfl⟩:=aaz.mp hb
     obtain⟨q,hq,hlq⟩:=aa3.mp hl
     have e2:=q9 (h q (aag _ hq)) (aab hlq)
     exact nd.1 (by rw[←e1,e,e2];exact aab hq)
theorem lH{ps:List Pt}{f:Str}{l:Ln}:l∈g_ ps f↔∃p∈ps,p.file=some f∧l∈p.iD:=by
 unfold g_
 rw[aa3]
 constructor
 · rintro⟨p,hp,hl⟩
   obtain⟨h1,h2⟩:=aaq.mp hp
   exact⟨p,h1,aar h2,hl⟩
 · rintro⟨p,h1,h2,hl⟩
   exact⟨p,aaq.mpr ⟨h1,UW h2⟩,hl⟩
theorem uK(ps:List Pt)(f:Str):(g_ ps f).Sublist (ps.flatMap (·.iD)):=by
 unfold g_
 have h:=aaN (p:=fun p:Pt=>decide (p.file=some f)) (l:=ps)
 generalize ps.filter _=qs at h
 induction h with
 | slnil=>exact aax _
 | cons x _ ih=>rw[aay];exact ih.trans (aaW _ _)
 | cons_cons x _ ih=>rw[aay,aay];exact(aax _).append ih
namespace Inv
variable{D:Dk}
theorem mi{s:Str}{p:Pt}:p∈D.qB s↔p∈D.made∧p.nm∈D.held s:=by
 unfold Dk.qB
 rw[aaq,decide_eq_true_iff]
theorem yx(s:Str):(D.qB s).Sublist D.made:=aaN
theorem nodup(I:Inv D)(s f:Str):((g_ (D.qB s) f).map (·.nm)).Nodup:=
 ((uK _ f).map _).nodup (Fq (((yx s).map _).nodup I.nd) fun p hp=>I.HB p (yx s |>.subset hp))
theorem NP(I:Inv D)(s f:Str):((nu (D.qB s) f).map (·.nm)).Nodup:=((lG _ f).map _).nodup (I.nodup s f)
theorem closed(I:Inv D){s:Str}(hs:s∈D.stores)(f:Str):pX (g_ (D.qB s) f):=by
 have key:∀l∈g_ (D.qB s) f,∀m,l.up=some m∨l.lo=some m→m∈(g_ (D.qB s) f).map (·.nm):=fun l hl m hm=>by
   obtain⟨p,hp,hf,hl⟩:=lH.mp hl
   obtain⟨hp,hh⟩:=mi.mp hp
   obtain⟨q,hq,e,VL,hn⟩:=I.refs p hp l hl m hm
   obtain⟨l',Ie,rfl⟩:=aaz.mp VL
   refine aab (lH.mpr ⟨q,mi.mpr ⟨hq,?_⟩,by rw[e];exact hf,Ie⟩)
   rcases hn with hn|hn
   · rw[hn];exact hh
   · exact(I.lW s hs _ hh).2 _ hn
 exact fun l hl=>⟨fun m hm=>key l hl m (.inl hm),fun m hm=>key l hl m (.inr hm)⟩
theorem QC(I:Inv D)(s f:Str):Jy (g_ (D.qB s) f):=by
 obtain⟨rk,h⟩:=I.rank
 refine⟨rk,fun l hl=>?_⟩
 obtain⟨p,hp,_,hl⟩:=lH.mp hl
 exact h p (mi.mp hp).1 l hl
theorem zf(I:Inv D)(s f:Str):(D.row s f).Perm (nu (D.qB s) f):=by
 obtain⟨rk,r⟩:=I.QC s f
 exact Fo (rk:=rk) (fun m n z=>r.ah z) (I.NP s f)
theorem uL(I:Inv D){s f:Str}{l:Ln}(h:l∈D.row s f):∃p∈D.qB s,p.file=some f∧l∈p.iD:=
 lH.mp ((lG _ f).subset ((I.zf s f).subset h))
theorem uM(I:Inv D)(s f:Str):(D.row s f).length≤(D.made.flatMap (·.iD)).length:=by
 rw[(I.zf s f).length_eq]
 refine aac (lG _ f).length_le (aac (uK _ f).length_le ?_)
 have h:=yx (D:=D) s
 generalize D.qB s=qs at h
 generalize D.made=ms at h
 clear I
 induction h with
 | slnil=>exact UU _
 | cons x _ ih=>rw[aay,VO];omega
 | cons_cons x _ ih=>rw[aay,aay,VO,VO];omega
open Classical in
theorem chain{lt:Nm→Nm→Prop}{row:List Ln}(hq:kR lt row=[]):row.Pairwise fun a b=>lt a.nm b.nm:=by
 rw[abp]
 intro i j hi hj VM
 by_cases c:ltAt lt row i j
 · obtain⟨a,b,ha,hb,z⟩:=c
   rw[UR hi] at ha
   rw[UR hj] at hb
   cases ha;cases hb
   exact z
 · exfalso
   have:(i,j)∈kR lt row:=by
     unfold kR
     refine aa3.mpr ⟨i,abI.mpr hi,aaz.mpr ⟨j,aaq.mpr ⟨List.mem_range'.mpr ⟨j-(i+1),by omega,by omega⟩,UW c⟩,rfl⟩⟩
   rw[hq] at this
   cases this
theorem keep(I:Inv D){s:Str}{p:Pt}(hs:s∈D.stores)(fresh:p.nm∉D.names)(HB:p.iD.map (·.nm)=(List.range p.iD.length).map fun j=>(p.nm,j))
   (refs:∀l∈p.iD,∀m,l.up=some m∨l.lo=some m→m∈p.iD.map (·.nm)∨∃q∈D.qB s,q.file=p.file∧m∈q.iD.map (·.nm))
   (j4:∀m∈p.j4,∃q∈D.qB s,m∈q.iD.map (·.nm)) (other:∀o,p.other=some o→o∈D.held s)
   (rank:∃rk,(∀q∈D.made,Rk q.iD rk)∧Rk p.iD rk):Inv (D.keep s p):=by
 have tO:∀x∈D.names,x≠p.nm:=fun x hx e=>fresh (e▸hx)
 have Tr:∀q∈D.made,q.nm∈D.names:=fun q hq=>aab hq
 have Py:∀x,x≠p.nm→(D.keep s p).iZ x=D.iZ x:=fun x hx=>aak hx
 have Ts:(D.keep s p).iZ p.nm=sJ D.iZ p:=aap rfl
 have VN:∀x∈iH p,x∈D.held s:=fun x hx=>by
   unfold iH at hx
   rcases aaa.mp hx with hx|hx
   · obtain⟨m,hm,rfl⟩:=aaz.mp hx
     obtain⟨hm,hn⟩:=aaq.mp hm
     have hn:m.1≠p.nm:=aar hn
     have fin:(∃q∈D.qB s,m∈q.iD.map (·.nm))→m.1∈D.held s:=fun⟨q,hq,VL⟩=>by
       obtain⟨h1,h2⟩:=mi.mp hq
       rw[q9 (I.HB q h1) VL];exact h2
     rcases aaa.mp hm with hm|hm
     · exact fin (j4 m hm)
     · obtain⟨l,hl,hm⟩:=aa3.mp hm
       have OO:l.up=some m∨l.lo=some m:=by
         rcases aaa.mp hm with hm|hm
         · exact .inl (by simpa using hm)
         · exact .inr (by simpa using hm)
       rcases refs l hl m OO with z|⟨q,hq,_,z⟩
       · exact absurd (q9 HB z) hn
       · exact fin ⟨q,hq,z⟩
   · exact other x (by simpa using hx)
 have nh:∀x∈sJ D.iZ p,x∈D.held s:=fun x hx=>by
   obtain⟨y,hy,hx⟩:=aa3.mp hx
   rcases XU.mp hx with rfl|hx
   · exact VN _ hy
   · exact(I.lW s hs y (VN y hy)).2 x hx
 have nn:∀x∈sJ D.iZ p,x∈D.names:=fun x hx=>(I.lW s hs x (nh x hx)).1
 have RJ:∀x∈D.names,∀y∈D.iZ x,y∈D.names:=fun x hx y hy=>by
   obtain⟨q,hq,rfl⟩:=aaz.mp hx
   obtain⟨i,hi⟩:=aaI.mp hq
   have:=I.before i q hi y hy
   exact(abG i D.made).map _ |>.subset this
 refine⟨?_,fun q hq=>?_,fun q hq l hl m hm=>?_,?_,fun i q hq x hx=>?_,fun x hx y hy z hz=>?_,I.stN,fun t ht x hx=>?_,fun t ht=>?_⟩
 · show((D.made++[p]).map (·.nm)).Nodup
   rw[aam,aaU]
   exact⟨I.nd,by simp,fun a ha b hb e=>fresh (by simp at hb;rw[←hb,←e];exact ha)⟩
 · rcases aaa.mp hq with hq|hq
   · exact I.HB q hq
   · rw[UP.mp hq];exact HB
 · rcases aaa.mp hq with hq|hq
   · obtain⟨q',h1,h2,h3,h4⟩:=I.refs q hq l hl m hm
     refine⟨q',aal _ h1,h2,h3,h4.imp id fun z=>?_⟩
     rw[Py _ (tO _ (Tr q hq))];exact z
   · rw[UP.mp hq] at hl ⊢
     rcases refs l hl m hm with z|⟨q',h1,h2,h3⟩
     · exact⟨p,by show p∈D.made++[p];simp,rfl,z,.inl rfl⟩
     · obtain⟨h4,h5⟩:=mi.mp h1
       refine⟨q',aal _ h4,h2,h3,.inr ?_⟩
       rw[Ts]
       have e:=q9 (I.HB q' h4) h3
       refine aa3.mpr ⟨q'.nm,?_,aan⟩
       unfold iH
       refine aal _ (aaz.mpr ⟨m,aaq.mpr ⟨?_,UW ?_⟩,e⟩)
       · unfold named
         refine aaC _ (aa3.mpr ⟨l,hl,?_⟩)
         rcases hm with hm|hm
         · exact aal _ (by rw[hm];simp)
         · exact aaC _ (by rw[hm];simp)
       · rw[e];exact tO _ (Tr q' h4)
 · obtain⟨rk,h1,h2⟩:=rank
   refine⟨rk,fun q hq=>?_⟩
   rcases aaa.mp hq with hq|hq
   · exact h1 q hq
   · rw[UP.mp hq];exact h2
 · show x∈((D.made++[p]).take i).map (·.nm)
   have hq:(D.made++[p])[i]?=some q:=hq
   by_cases hi:i<D.made.length
   · rw[abo hi] at hq
     rw[List.take_append_of_le_length (by omega)]
     rw[Py _ (tO _ (Tr q (VI hq)))] at hx
     exact I.before i q hq x hx
   · have hl:=(RL.mp hq).1
     rw[VO] at hl
     have hi:i=D.made.length:=by have:[p].length=1:=rfl;omega
     subst hi
     rw[aa4 (UU _),Nat.sub_self] at hq
     cases hq
     rw[List.take_append_of_le_length (UU _),aaj]
     rw[Ts] at hx
     exact nn x hx
 · have hx:x∈(D.made++[p]).map (·.nm):=hx
   rw[aam] at hx
   rcases aaa.mp hx with hx|hx
   · rw[Py _ (tO x hx)] at hy ⊢
     rw[Py _ (tO y (RJ x hx y hy))] at hz
     exact I.trans x hx y hy z hz
   · have hx:x=p.nm:=by simpa using hx
     rw[hx,Ts] at hy ⊢
     rw[Py _ (tO y (nn y hy))] at hz
     obtain⟨w,hw,hy⟩:=aa3.mp hy
     refine aa3.mpr ⟨w,hw,aag _ ?_⟩
     rcases XU.mp hy with rfl|hy
     · exact hz
     · exact I.trans w (I.lW s hs w (VN w hw)).1 y hy z hz
 · have old:∀u∈D.stores,∀x∈D.held u,x∈(D.keep s p).names∧∀y∈(D.keep s p).iZ x,y∈D.held u:=fun u hu x hx=>by
     obtain⟨h1,h2⟩:=I.lW u hu x hx
     refine⟨?_,fun y hy=>?_⟩
     · show x∈(D.made++[p]).map (·.nm)
       rw[aam];exact aal _ h1
     · rw[Py _ (tO x h1)] at hy
       exact h2 y hy
   have hx:x∈(if t=s then D.held s++[p.nm] else D.held t):=hx
   show x∈(D.keep s p).names∧∀y∈(D.keep s p).iZ x,y∈(if t=s then D.held s++[p.nm] else D.held t)
   by_cases e:t=s
   · rw[aap e] at hx ⊢
     rcases aaa.mp hx with hx|hx
     · obtain⟨h1,h2⟩:=old s hs x hx
       exact⟨h1,fun y hy=>aal _ (h2 y hy)⟩
     · have hx:x=p.nm:=by simpa using hx
       rw[hx]
       refine⟨?_,fun y hy=>?_⟩
       · show p.nm∈(D.made++[p]).map (·.nm)
         simp
       · rw[Ts] at hy
         exact aal _ (nh y hy)
   · rw[aak e] at hx ⊢
     exact old t ht x hx
 · show(if t=s then D.held s++[p.nm] else D.held t).Nodup
   by_cases e:t=s
   · rw[aap e,aaU]
     exact⟨I.uJ s hs,by simp,fun a ha b hb z=>fresh (by simp at hb;rw[←hb,←z];exact(I.lW s hs a ha).1)⟩
   · rw[aak e];exact I.uJ t ht
theorem record(I:Inv D){s f x:Str}(hs:s∈D.stores)(fresh:x∉D.names)(hq:D.AF s f=[])(texts:List Str):Inv (D.keep s (mx x f (D.row s f) texts)):=by
 obtain⟨rk,OP⟩:=I.rank
 have rise:=sI ((D.row s f).map (·.tx)) texts
 rw[RF] at rise
 have RK:∀t m,mF (D.row s f) (K01.kept ((D.row s f).map (·.tx)) texts) t=some m→∃q∈D.qB s,q.file=some f∧m∈q.iD.map (·.nm):=fun t m h=>by
   obtain⟨q,_,_,l,hl,rfl⟩:=B6 h
   obtain⟨p,h1,h2,h3⟩:=I.uL (VI hl)
   exact⟨p,h1,h2,aab h3⟩
 have own:∀q∈D.made,∀m∈q.iD.map (·.nm),m.1≠x:=fun q hq m hm e=>fresh (by rw[←e,q9 (I.HB q hq) hm];exact aab hq)
 have ch:(D.row s f).Pairwise fun a b=>rk a.nm<rk b.nm:=by
   have tr:Rk (g_ (D.qB s) f) rk:=fun l hl=>by
     obtain⟨p,hp,_,hl⟩:=lH.mp hl
     exact OP p (mi.mp hp).1 l hl
   exact(chain hq).imp fun z=>tr.ah z
 refine I.keep hs fresh ?_ (fun l hl m hm=>?_) (fun m hm=>?_) (fun o ho=>by cases ho) ⟨Fp rk (mF (D.row s f) (K01.kept ((D.row s f).map (·.tx)) texts)) x texts.length,fun q hq=>?_,?_⟩
 · show(kA x texts _).map (·.nm)=(List.range (kA x texts _).length).map fun j=>(x,j)
   unfold kA
   rw[uI,←List.range_eq_range']
 · rcases yw texts 0 0 none l hl m hm with(z|⟨t,z⟩)|z
   · cases z
   · exact .inr (RK t m z)
   · exact .inl z
 · obtain⟨l,hl,rfl⟩:=aaz.mp hm
   obtain⟨p,h1,_,h3⟩:=I.uL (aaq.mp hl).1
   exact⟨p,h1,aab h3⟩
 · refine JD (OP q hq) fun l hl=>⟨own q hq _ (aab hl),fun m hm=>?_⟩
   obtain⟨q',h1,_,h3,_⟩:=I.refs q hq l hl m hm
   exact own q' h1 m h3
 · refine JC (fun a b c d h1 h2 h3=>Ls rise ch h1 h2 h3) (fun t m h=>?_) texts
   obtain⟨q,h1,_,h3⟩:=RK t m h
   exact own q (mi.mp h1).1 m h3
theorem cut(I:Inv D){s f x:Str}(hs:s∈D.stores)(fresh:x∉D.names){ms:List Nm}(hm:∀m∈ms,m∈(D.row s f).map (·.nm)):Inv (D.keep s ⟨x,some f,[],ms,none⟩):=by
 refine I.keep hs fresh rfl (fun l hl=>by cases hl) (fun m h=>?_) (fun o ho=>by cases ho) ?_
 · obtain⟨l,hl,rfl⟩:=aaz.mp (hm m h)
   obtain⟨p,h1,_,h3⟩:=I.uL hl
   exact⟨p,h1,aab h3⟩
 · obtain⟨rk,h⟩:=I.rank
   exact⟨rk,h,fun l hl=>by cases hl⟩
theorem back(I:Inv D){s x o:Str}(hs:s∈D.stores)(fresh:x∉D.names)(ho:o∈D.held s):Inv (D.keep s ⟨x,none,[],[],some o⟩):=by
 refine I.keep hs fresh rfl (fun l hl=>by cases hl) (fun m h=>by cases h) (fun o' h=>by cases h;exact ho) ?_
 obtain⟨rk,h⟩:=I.rank
 exact⟨rk,h,fun l hl=>by cases hl⟩
theorem Bm(I:Inv D){x:Str}(hx:x∈D.names):x∉D.iZ x:=fun h=>by
 obtain⟨q,hq,rfl⟩:=aaz.mp hx
 obtain⟨i,hi⟩:=aaI.mp hq
 have h1:=I.before i q hi _ h
 rw[List.map_take] at h1
 obtain⟨j,hj⟩:=aaI.mp h1
 have Ic:j<i:=by have:=(RL.mp hj).1;rw[aau] at this;omega
 rw[abm,aap Ic] at hj
 have e3:(D.made.map (·.nm))[i]?=some q.nm:=by rw[aah,hi];rfl
 have:=(abu (RL.mp hj).1 I.nd).mp (hj.trans e3.symm)
 omega
theorem yy(I:Inv D){x y:Str}(hx:x∈D.names)(hy:y∈D.iZ x):y∈D.names:=by
 obtain⟨q,hq,rfl⟩:=aaz.mp hx
 obtain⟨i,hi⟩:=aaI.mp hq
 exact(abG i D.made).map _ |>.subset (I.before i q hi y hy)
theorem take(I:Inv D){s x:Str}(hs:s∈D.stores)(hx:x∈D.names):Inv (D.take s x):=by
 have cm:∀y∈D.nR s x,(y=x∨y∈D.iZ x)∧y∉D.held s:=fun y hy=>by
   obtain⟨h1,h2⟩:=aaq.mp hy
   refine⟨?_,aar h2⟩
   rcases aaa.mp h1 with h|h
   · exact .inr (aar (aaq.mp h).2)
   · exact .inl (by simpa using h)
 have YA:∀y,y=x∨y∈D.iZ x→y∈D.held s++D.nR s x:=fun y hy=>by
   by_cases h:y∈D.held s
   · exact aal _ h
   · refine aaC _ (aaq.mpr ⟨?_,UW h⟩)
     rcases hy with rfl|hy
     · simp
     · exact aal _ (aaq.mpr ⟨I.yy hx hy,UW hy⟩)
 refine⟨I.nd,I.HB,I.refs,I.rank,I.before,I.trans,I.stN,fun t ht z hz=>?_,fun t ht=>?_⟩
 · have hz:z∈(if t=s then D.held s++D.nR s x else D.held t):=hz
   show z∈D.names∧∀y∈D.iZ z,y∈(if t=s then D.held s++D.nR s x else D.held t)
   by_cases e:t=s
   · rw[aap e] at hz ⊢
     rcases aaa.mp hz with hz|hz
     · obtain⟨h1,h2⟩:=I.lW s hs z hz
       exact⟨h1,fun y hy=>aal _ (h2 y hy)⟩
     · obtain⟨h1,_⟩:=cm z hz
       rcases h1 with rfl|h1
       · exact⟨hx,fun y hy=>YA y (.inr hy)⟩
       · exact⟨I.yy hx h1,fun y hy=>YA y (.inr (I.trans x hx z h1 y hy))⟩
   · rw[aak e] at hz ⊢
     exact I.lW t ht z hz
 · show(if t=s then D.held s++D.nR s x else D.held t).Nodup
   by_cases e:t=s
   · rw[aap e,aaU]
     refine⟨I.uJ s hs,?_,fun a ha b hb z=>(cm b hb).2 (z▸ha)⟩
     refine abB aaN ?_
     rw[aaU]
     refine⟨abB aaN I.nd,by simp,fun a ha b hb z=>?_⟩
     rw[UP.mp hb] at z
     subst z
     exact I.Bm hx (aar (aaq.mp ha).2)
   · rw[aak e];exact I.uJ t ht
theorem drop(I:Inv D){s x:Str}(hs:s∈D.stores)(hx:∀z∈D.held s,x∉D.iZ z):Inv (D.drop s x):=by
 refine⟨I.nd,I.HB,I.refs,I.rank,I.before,I.trans,I.stN,fun t ht z hz=>?_,fun t ht=>?_⟩
 · have hz:z∈(if t=s then(D.held s).filter (fun y=>y≠x) else D.held t):=hz
   show z∈D.names∧∀y∈D.iZ z,y∈(if t=s then(D.held s).filter (fun y=>y≠x) else D.held t)
   by_cases e:t=s
   · rw[aap e] at hz ⊢
     have hz:=(aaq.mp hz).1
     obtain⟨h1,h2⟩:=I.lW s hs z hz
     exact⟨h1,fun y hy=>aaq.mpr ⟨h2 y hy,UW fun e=>hx z hz (e▸hy)⟩⟩
   · rw[aak e] at hz ⊢
     exact I.lW t ht z hz
 · show(if t=s then(D.held s).filter (fun y=>y≠x) else D.held t).Nodup
   by_cases e:t=s
   · rw[aap e];exact abB aaN (I.uJ s hs)
   · rw[aak e];exact I.uJ t ht
theorem begin(I:Inv D){s:Str}(hs:s∉D.stores):Inv (D.begin s):=by
 refine⟨I.nd,I.HB,I.refs,I.rank,I.before,I.trans,?_,fun t ht z hz=>?_,fun t ht=>?_⟩
 · show(D.stores++[s]).Nodup
   rw[aaU]
   exact⟨I.stN,by simp,fun a ha b hb e=>hs (by rw[←UP.mp hb,←e];exact ha)⟩
 · have hz:z∈(if t=s then[] else D.held t):=hz
   show z∈D.names∧∀y∈D.iZ z,y∈(if t=s then[] else D.held t)
   by_cases e:t=s
   · rw[aap e] at hz;cases hz
   · rw[aak e] at hz ⊢
     rcases aaa.mp ht with ht|ht
     · exact I.lW t ht z hz
     · exact absurd (UP.mp ht) e
 · show(if t=s then[] else D.held t).Nodup
   by_cases e:t=s
   · rw[aap e];exact aa6
   · rw[aak e]
     rcases aaa.mp ht with ht|ht
     · exact I.uJ t ht
     · exact absurd (UP.mp ht) e
theorem Bn(I:Inv D){s x:Str}{xs:List Str}(hs:s∈D.stores)(h:D.has s=xs++[x]):∀z∈D.held s,x∉D.iZ z:=by
 intro z hz hx
 obtain⟨hz1,_⟩:=I.lW s hs z hz
 obtain⟨q,hq,rfl⟩:=aaz.mp hz1
 obtain⟨i,hi⟩:=aaI.mp hq
 have h1:=I.before i q hi x hx
 have e:D.names=(D.made.take i).map (·.nm)++q.nm::(D.made.drop (i+1)).map (·.nm):=by
   have AY:=(RL.mp hi).1
   unfold Dk.names
   conv=>lhs;rw[←abf i D.made,aaL AY,(RL.mp hi).2]
   rw[aam,aao]
 have hn:=I.nd
 rw[e,aaU,aaQ] at hn
 unfold Dk.has at h
 rw[e,aaF,XW (p:=fun y=>decide (y∈D.held s)) (UW hz)] at h
 have hl:x∈q.nm::((D.made.drop (i+1)).map (·.nm)).filter fun y=>decide (y∈D.held s):=by
   have h2:=congrArg List.getLast? h
   rw[List.getLast?_append,List.getLast?_append] at h2
   have h3:(q.nm::((D.made.drop (i+1)).map (·.nm)).filter fun y=>decide (y∈D.held s)).getLast?=some x:=by
     cases e4:(q.nm::((D.made.drop (i+1)).map (·.nm)).filter fun y=>decide (y∈D.held s)).getLast? with
     | none=>simp at e4
     | some y=>rw[e4] at h2;simpa using h2
   exact List.mem_of_getLast? h3
 have Ie:x∈q.nm::(D.made.drop (i+1)).map (·.nm):=by
   rcases XU.mp hl with z|z
   · rw[z];exact aan
   · exact aag _ (aaq.mp z).1
 exact hn.2.2 x h1 x Ie rfl
end Inv
end PM
namespace PK
open PySem L2
set_option genInjectivity false
set_option genSizeOf false
set_option genSizeOfSpec false
noncomputable def top(i:Nat):Stmt:=PySem.Challenge.pw_patchkin_k15_no_such_store.main.body.getD i (.Pass ⟨0,0,0,0⟩)
noncomputable abbrev oK:Stmt:=top 2
noncomputable abbrev pY:Stmt:=top 3
noncomputable abbrev pZ:Stmt:=top 4
noncomputable abbrev Fs:Stmt:=top 5
noncomputable abbrev mG:Stmt:=inClass (top 17) 0
noncomputable abbrev l0:Stmt:=inClass (top 18) 0
noncomputable abbrev kJ:Stmt:=top 19
noncomputable abbrev jP:Stmt:=top 20
noncomputable abbrev nz:Stmt:=top 21
noncomputable abbrev q_:Stmt:=top 22
noncomputable abbrev kK:Stmt:=top 23
noncomputable abbrev k8:Stmt:=top 24
noncomputable abbrev l6:Stmt:=top 25
noncomputable abbrev zg:Stmt:=top 26
noncomputable abbrev oa:Stmt:=top 27
noncomputable abbrev p0:Stmt:=top 28
noncomputable abbrev uN:Stmt:=top 29
noncomputable abbrev l7:Stmt:=inClass (top 30) 0
noncomputable abbrev l8:Stmt:=inClass (top 30) 1
noncomputable abbrev kO:Stmt:=inClass (top 30) 2
noncomputable abbrev og:Stmt:=inClass (top 30) 3
noncomputable abbrev mH:Stmt:=inClass (top 30) 4
noncomputable abbrev p5:Stmt:=top 34
noncomputable abbrev nA:Stmt:=top 35
noncomputable abbrev oM:Stmt:=top 36
noncomputable abbrev ra:Stmt:=top 37
noncomputable abbrev jU:Stmt:=top 38
noncomputable abbrev mI:Stmt:=inClass (top 39) 0
noncomputable abbrev p7:Stmt:=inClass (top 39) 1
noncomputable abbrev oN:Stmt:=inClass (top 39) 2
noncomputable abbrev nB:Stmt:=inClass (top 39) 3
noncomputable abbrev p8:Stmt:=inClass (top 39) 4
noncomputable abbrev mj:Stmt:=inClass (top 39) 5
noncomputable abbrev p9:Stmt:=inClass (top 39) 6
noncomputable abbrev rf:Stmt:=inClass (top 39) 7
noncomputable abbrev oh:Stmt:=inClass (top 39) 8
noncomputable abbrev rg:Stmt:=inClass (top 39) 9
noncomputable abbrev mZ:Stmt:=inClass (top 39) 10
noncomputable abbrev p_:Stmt:=inClass (top 39) 12
noncomputable abbrev qa:Stmt:=inClass (top 39) 13
noncomputable abbrev mJ:Stmt:=inClass (top 39) 14
noncomputable abbrev rh:Stmt:=inClass (top 39) 15
noncomputable abbrev ko:Stmt:=inClass (top 39) 16
noncomputable abbrev mK:Stmt:=inClass (top 39) 17
noncomputable abbrev k9:Stmt:=inClass (top 39) 18
noncomputable abbrev lI:Stmt:=inClass (top 39) 19
noncomputable abbrev lJ:Stmt:=inClass (top 39) 20
noncomputable abbrev l9:Stmt:=inClass (top 39) 21
noncomputable abbrev rj:Stmt:=inClass (top 39) 22
noncomputable abbrev nE:Stmt:=top 41
noncomputable abbrev rl:Stmt:=top 42
noncomputable abbrev rm:Stmt:=top 43
noncomputable abbrev oj:Stmt:=top 44
noncomputable abbrev rn:Stmt:=top 45
noncomputable abbrev om:Stmt:=top 46
noncomputable abbrev my:Stmt:=top 47
noncomputable abbrev oq:Stmt:=top 48
noncomputable abbrev qb:Stmt:=top 49
noncomputable abbrev qc:Stmt:=top 50
noncomputable abbrev tW:Stmt:=top 51
noncomputable abbrev nF:Stmt:=top 52
noncomputable abbrev DW:Stmt:=top 53
noncomputable abbrev x8:List Str:=["self","name","text","upper_name","lower_name"]
theorem vZ:gm x8 ["self","name","text","upper_name","lower_name"] (fU mG):=scM (by decide+kernel)
noncomputable abbrev v_:List Str:=["self","name","file","puts","cuts","other"]
theorem uO:gm v_ ["self","name","file","puts","cuts","other"] (fU l0):=scM (by decide+kernel)
noncomputable abbrev pd:List Str:=["patch","names","line","name"]
theorem kq:gm pd ["patch"] (fU kJ):=scM (by decide+kernel)
noncomputable abbrev mT:List Str:=["patch","leant","name"]
theorem kB:gm mT ["patch"] (fU jP):=scM (by decide+kernel)
noncomputable abbrev zh:List Str:=["patches","taken_back","live","patch"]
theorem kU:gm zh ["patches"] (fU nz):=scM (by decide+kernel)
noncomputable abbrev DX:List Str:=["patches","file","lines","patch"]
theorem qd:gm DX ["patches","file"] (fU q_):=scM (by decide+kernel)
noncomputable abbrev pe:List Str:=["patches","file","live","gone","patch","name","line"]
theorem jb:gm pe ["patches","file"] (fU kK):=scM (by decide+kernel)
noncomputable abbrev tX:List Str:=["patches","files","patch","file"]
theorem sU:gm tX ["patches"] (fU k8):=scM (by decide+kernel)
noncomputable abbrev wa:List Str:=["lines","straight","line"]
theorem kr:gm wa ["lines"] (fU l6):=scM (by decide+kernel)
noncomputable abbrev JE:List Str:=["names","ahead","found","name"]
theorem wb:gm JE ["names","ahead"] (fU zg):=scM (by decide+kernel)
noncomputable abbrev xa:List Str:=["lines","straight","ahead","line","climb","name","missing","other"]
theorem jy:gm xa ["lines"] (fU oa):=scM (by decide+kernel)
noncomputable abbrev B_:List Str:=["waiting","name"]
theorem tj:gm B_ ["waiting"] (fU p0):=scM (by decide+kernel)
noncomputable abbrev DY:List Str:=["lines","ahead","by_name","waiting","line","row","name","other"]
theorem lh:gm DY ["lines","ahead"] (fU uN):=scM (by decide+kernel)
noncomputable abbrev wc:List Str:=["self","patches","file"]
theorem uP:gm wc ["self","patches","file"] (fU l7):=scM (by decide+kernel)
noncomputable abbrev wd:List Str:=["self","first","second"]
theorem uQ:gm wd ["self","first","second"] (fU l8):=scM (by decide+kernel)
noncomputable abbrev sV:List Str:=["self","pairs","first","second"]
theorem jz:gm sV ["self"] (fU kO):=scM (by decide+kernel)
noncomputable abbrev x9:List Str:=["self","counts","left","places","place"]
theorem we:gm x9 ["self"] (fU mH):=scM (by decide+kernel)
noncomputable abbrev Ca:List Str:=["name","sign"]
theorem tm:gm Ca ["name"] (fU p5):=scM (by decide+kernel)
noncomputable abbrev zi:List Str:=["places","size","least","place"]
theorem kW:gm zi ["places","size"] (fU nA):=scM (by decide+kernel)
noncomputable abbrev AG:List Str:=["kept_names","size","behind","place"]
theorem nG:gm AG ["kept_names","size"] (fU oM):=scM (by decide+kernel)
noncomputable abbrev DZ:List Str:=["patch","texts","kept_names","behind","lines","upper_name","place","text"]
theorem jA:gm DZ ["patch","texts","kept_names"] (fU ra):=scM (by decide+kernel)
noncomputable abbrev l_:List Str:=["patch","file","row","texts","kept_names","left","first","second","cuts","line"]
theorem iI:gm l_ ["patch","file","row","texts"] (fU jU):=scM (by decide+kernel)
noncomputable abbrev x_:List Str:=["self"]
theorem wg:gm x_ ["self"] (fU mI):=scM (by decide+kernel)
noncomputable abbrev Cb:List Str:=["self","store"]
theorem AH:gm Cb ["self","store"] (fU p7):=scM (by decide+kernel)
noncomputable abbrev AI:List Str:=["self"]
theorem zj:gm AI ["self"] (fU oN):=scM (by decide+kernel)
noncomputable abbrev zl:List Str:=["self"]
theorem ya:gm zl ["self"] (fU nB):=scM (by decide+kernel)
noncomputable abbrev zm:List Str:=["self","store","name"]
theorem xb:gm zm ["self","store"] (fU p8):=scM (by decide+kernel)
noncomputable abbrev tq:List Str:=["self","store","patch","file","texts","sight","line"]
theorem nH:gm tq ["self","store","patch","file","texts"] (fU mj):=scM (by decide+kernel)
noncomputable abbrev zo:List Str:=["self","store","patch","file","places","row","place"]
theorem rq:gm zo ["self","store","patch","file","places"] (fU p9):=scM (by decide+kernel)
noncomputable abbrev D1:List Str:=["self","store","patch","other"]
theorem Cc:gm D1 ["self","store","patch","other"] (fU rf):=scM (by decide+kernel)
noncomputable abbrev xc:List Str:=["self","store","source","patch","wanted","came","name"]
theorem lK:gm xc ["self","store","source","patch"] (fU oh):=scM (by decide+kernel)
noncomputable abbrev D2:List Str:=["self","store","patch","name"]
theorem uR:gm D2 ["self","store","patch"] (fU rg):=scM (by decide+kernel)
noncomputable abbrev uS:List Str:=["self","patch","name"]
theorem tw:gm uS ["self","patch"] (fU mZ):=scM (by decide+kernel)
noncomputable abbrev Cd:List Str:=["self","store"]
theorem AJ:gm Cd ["self","store"] (fU p_):=scM (by decide+kernel)
noncomputable abbrev zp:List Str:=["self","store","file","line"]
theorem xf:gm zp ["self","store","file"] (fU qa):=scM (by decide+kernel)
noncomputable abbrev yb:List Str:=["self","store","file"]
theorem wj:gm yb ["self","store","file"] (fU mJ):=scM (by decide+kernel)
noncomputable abbrev D3:List Str:=["self","store","file"]
theorem Ce:gm D3 ["self","store","file"] (fU rh):=scM (by decide+kernel)
noncomputable abbrev ou:List Str:=["self","store","name"]
theorem nI:gm ou ["self","store"] (fU ko):=scM (by decide+kernel)
noncomputable abbrev yc:List Str:=["self","store","file"]
theorem wk:gm yc ["self","store","file"] (fU mK):=scM (by decide+kernel)
noncomputable abbrev tY:List Str:=["self","store"]
theorem sW:gm tY ["self","store"] (fU k9):=scM (by decide+kernel)
noncomputable abbrev uT:List Str:=["self","patch"]
theorem tZ:gm uT ["self","patch"] (fU lI):=scM (by decide+kernel)
noncomputable abbrev uU:List Str:=["self","store","patch"]
theorem t5:gm uU ["self","store","patch"] (fU lJ):=scM (by decide+kernel)
noncomputable abbrev wo:List Str:=["self","patch","files","name"]
theorem ow:gm wo ["self","patch","files"] (fU l9):=scM (by decide+kernel)
noncomputable abbrev D5:List Str:=["self","store","patch","needs","name"]
theorem qf:gm D5 ["self","store","patch"] (fU rj):=scM (by decide+kernel)
noncomputable abbrev zq:List Str:=["script","k"]
theorem yd:gm zq ["script","k"] (fU nE):=scM (by decide+kernel)
noncomputable abbrev D6:List Str:=["cell","k","bound","stir"]
theorem qg:gm D6 ["cell","k","bound"] (fU rl):=scM (by decide+kernel)
noncomputable abbrev D7:List Str:=["cell","k","signs","size","base","far","found","j"]
theorem jh:gm D7 ["cell","k"] (fU rm):=scM (by decide+kernel)
noncomputable abbrev xg:List Str:=["cell","signs","size","j"]
theorem lL:gm xg ["cell"] (fU oj):=scM (by decide+kernel)
noncomputable abbrev D8:List Str:=["texts","cell","at","line","more","way","out","turned"]
theorem j5:gm D8 ["texts","cell"] (fU rn):=scM (by decide+kernel)
noncomputable abbrev xh:List Str:=["desk","stores","files","cell","name","backs","store","file","way","more","row","source","names","line"]
theorem ji:gm xh ["desk","stores","files","cell","name","backs"] (fU om):=scM (by decide+kernel)
noncomputable abbrev rA:List Str:=["script","first","most","backs","desk","stores","files","store","k","cell"]
theorem i7:gm rA ["script","first","most","backs"] (fU my):=scM (by decide+kernel)
noncomputable abbrev xi:List Str:=["desk","store","files","file"]
theorem uV:gm xi ["desk","store","files"] (fU oq):=scM (by decide+kernel)
noncomputable abbrev Cf:List Str:=["e","some"]
theorem oO:gm Cf ["e"] (fU qb):=scM (by decide+kernel)
noncomputable abbrev zr:List Str:=["place","k"]
theorem xj:gm zr ["place"] (fU qc):=scM (by decide+kernel)
noncomputable abbrev Ft:List Str:=["desk","what","store","other","file"]
theorem D9:gm Ft ["desk","what","store","other","file"] (fU tW):=scM (by decide+kernel)
noncomputable abbrev zt:List Str:=["desk","what","store","other","file","which","e"]
theorem kX:gm zt ["desk","what","store","other","file"] (fU nF):=scM (by decide+kernel)
noncomputable abbrev JF:List Str:=["script","built","desk","some","store","before","what","one"]
theorem oP:gm JF ["script"] (fU DW):=scM (by decide+kernel)
structure Txt(mg:Str→Option Value):Prop where
 jV:mg "len"=none
 lM:mg "range"=none
 QD:mg "max"=none
 jj:mg "isinstance"=none
 zu:mg "list"=none
 zv:mg "reversed"=none
 QE:mg "sorted"=none
 XY:mg "set"=none
 D_:mg "enumerate"=none
 Cg:mg "ValueError"=none
structure Ad where
 AK:Addr
 AL:FuncData
 Ci:Addr
 Cj:FuncData
 Ck:Addr
 Cm:FuncData
 JG:Addr
 JH:FuncData
 mL:Addr
 qC:FuncData
 ma:Addr
 pf:FuncData
 ph:Addr
 pj:FuncData
 mU:Addr
 mV:FuncData
 rB:Addr
 rC:FuncData
 xl:Addr
 xm:FuncData
 pk:Addr
 pq:FuncData
 nJ:Addr
 nK:FuncData
 pw:Addr
 pz:FuncData
 Ea:Addr
 Eb:FuncData
 xn:Addr
 xo:FuncData
 uW:Addr
 uX:FuncData
 Ec:Addr
 Ed:FuncData
 me:Addr
 pA:FuncData
 pB:Addr
 pC:FuncData
 mW:Addr
 mX:FuncData
 uY:Addr
 uZ:FuncData
 qD:Addr
 qE:FuncData
 u0:Addr
 u4:FuncData
 rD:Addr
 rE:FuncData
 tD:Addr
 tE:FuncData
 xp:Addr
 xq:FuncData
 pE:Addr
 pF:FuncData
 mO:Addr
 qF:FuncData
 u5:Addr
 u9:FuncData
 tF:Addr
 tG:FuncData
 rF:Addr
 rG:FuncData
 zw:Addr
 zx:FuncData
 tH:Addr
 tI:FuncData
 zy:Addr
 zz:FuncData
 xr:Addr
 xt:FuncData
 xu:Addr
 xv:FuncData
 xw:Addr
 xx:FuncData
 u_:Addr
 va:FuncData
 vb:Addr
 vc:FuncData
 zA:Addr
 zB:FuncData
 qG:Addr
 qH:FuncData
 xy:Addr
 xA:FuncData
 ox:Addr
 oy:FuncData
 qI:Addr
 qJ:FuncData
 nL:Addr
 nM:FuncData
 oz:Addr
 oA:FuncData
 oB:Addr
 oC:FuncData
 pG:Addr
 pH:FuncData
 xB:Addr
 xC:FuncData
 rH:Addr
 rJ:FuncData
 xD:Addr
 xE:FuncData
 xF:Addr
 xG:FuncData
 xH:Addr
 xI:FuncData
 xJ:Addr
 xK:FuncData
 xM:Addr
 xN:FuncData
 xO:Addr
 xP:FuncData
 xQ:Addr
 xR:FuncData
 vd:Addr
 ve:FuncData
 zC:Addr
 zD:FuncData
 zE:Addr
 zF:FuncData
 rK:Addr
 rL:FuncData
 gH:Addr
 hE:Addr
 hU:Addr
 gk:Addr
 jk:Addr
 i5:Addr
 iQ:Addr
 gj:Addr
 jc:Addr
 kS:Addr
 jB:Addr
 oQ:Addr
 oE:Addr
 m_:Tok
 lN:Tok
 z:Unit
structure Ok(K:PySem.W.Frag)(mg:Str→Option Value)(A:Ad):Prop where
 rM:DF K mg "counts_with" oK A.AK A.AL ["text","new","below"]
 t7:DF K mg "most_pairs" pY A.Ci A.Cj ["old","new"]
 t8:DF K mg "place_from" pZ A.Ck A.Cm ["texts","text","start"]
 kept:DF K mg "kept" Fs A.JG A.JH ["old","new"]
 tJ:DM K A.gH "__init__" "Line.__init__" mG A.mL A.qC ["self","name","text","upper_name","lower_name"]
 lO:DM K A.hE "__init__" "Patch.__init__" l0 A.ma A.pf ["self","name","file","puts","cuts","other"]
 rN:DF K mg "lines_named_by" kJ A.ph A.pj ["patch"]
 oF:DF K mg "leans_straight_on" jP A.mU A.mV ["patch"]
 vg:DF K mg "live_patches" nz A.rB A.rC ["patches"]
 wq:DF K mg "lines_put" q_ A.xl A.xm ["patches","file"]
 rO:DF K mg "standing_lines" kK A.pk A.pq ["patches","file"]
 pI:DF K mg "files_with_lines" k8 A.nJ A.nK ["patches"]
 rP:DF K mg "straight_ahead" l6 A.pw A.pz ["lines"]
 joined:DF K mg "joined" zg A.Ea A.Eb ["names","ahead"]
 Bo:DF K mg "all_ahead" oa A.xn A.xo ["lines"]
 zG:DF K mg "first_free" p0 A.uW A.uX ["waiting"]
 JI:DF K mg "row_of" uN A.Ec A.Ed ["lines","ahead"]
 rQ:DM K A.hU "__init__" "Sight.__init__" l7 A.me A.pA ["self","patches","file"]
 rR:DM K A.hU "is_ahead" "Sight.is_ahead" l8 A.pB A.pC ["self","first","second"]
 jC:DM K A.hU "quarrelling" "Sight.quarrelling" kO A.mW A.mX ["self"]
 Ik:DM K A.hU "most_from" "Sight.most_from" og A.uY A.uZ ["self"]
 oR:DM K A.hU "staying" "Sight.staying" mH A.qD A.qE ["self"]
 t9:DF K mg "check_name" p5 A.u0 A.u4 ["name"]
 vj:DF K mg "check_places" nA A.rD A.rE ["places","size"]
 xS:DF K mg "kept_behind" oM A.tD A.tE ["kept_names","size"]
 Bp:DF K mg "new_lines" ra A.xp A.xq ["patch","texts","kept_names"]
 rS:DF K mg "changing_patch" jU A.pE A.pF ["patch","file","row","texts"]
 tK:DM K A.gk "__init__" "Desk.__init__" mI A.mO A.qF ["self"]
 zH:DM K A.gk "begin" "Desk.begin" p7 A.u5 A.u9 ["self","store"]
 kC:DM K A.gk "stores" "Desk.stores" oN A.tF A.tG ["self"]
 j6:DM K A.gk "patches" "Desk.patches" nB A.rF A.rG ["self"]
 lP:DM K A.gk "has" "Desk.has" p8 A.zw A.zx ["self","store"]
 rV:DM K A.gk "record" "Desk.record" mj A.tH A.tI ["self","store","patch","file","texts"]
 zI:DM K A.gk "cut" "Desk.cut" p9 A.zy A.zz ["self","store","patch","file","places"]
 wu:DM K A.gk "back" "Desk.back" rf A.xr A.xt ["self","store","patch","other"]
 sL:DM K A.gk "take" "Desk.take" oh A.xu A.xv ["self","store","source","patch"]
 wx:DM K A.gk "drop" "Desk.drop" rg A.xw A.xx ["self","store","patch"]
 zJ:DM K A.gk "leans" "Desk.leans" mZ A.u_ A.va ["self","patch"]
 zK:DM K A.gk "files" "Desk.files" p_ A.vb A.vc ["self","store"]
 vk:DM K A.gk "row" "Desk.row" qa A.zA A.zB ["self","store","file"]
 ml:DM K A.gk "quarrels" "Desk.quarrels" mJ A.qG A.qH ["self","store","file"]
 Bq:DM K A.gk "stay" "Desk.stay" rh A.xy A.xA ["self","store","file"]
 mQ:DM K A.gk "patches_of" "Desk.patches_of" ko A.ox A.oy ["self","store"]
 ki:DM K A.gk "sight_of" "Desk.sight_of" mK A.qI A.qJ ["self","store","file"]
 iR:DM K A.gk "check_store" "Desk.check_store" k9 A.nL A.nM ["self","store"]
 qK:DM K A.gk "check_made" "Desk.check_made" lI A.oz A.oA ["self","patch"]
 kY:DM K A.gk "check_held" "Desk.check_held" lJ A.oB A.oC ["self","store","patch"]
 lQ:DM K A.gk "check_new" "Desk.check_new" l9 A.pG A.pH ["self","patch","files"]
 sM:DM K A.gk "keep" "Desk.keep" rj A.xB A.xC ["self","store","patch"]
 jD:DF K mg "_law_cell_at" nE A.rH A.rJ ["script","k"]
 Br:DF K mg "_law_draw" rl A.xD A.xE ["cell","k","bound"]
 sN:DF K mg "_law_name" rm A.xF A.xG ["cell","k"]
 wy:DF K mg "_law_text" oj A.xH A.xI ["cell"]
 Bs:DF K mg "_law_edit" rn A.xJ A.xK ["texts","cell"]
 Bt:DF K mg "_law_deed" om A.xM A.xN ["desk","stores","files","cell","name","backs"]
 Bu:DF K mg "_law_desk" my A.xO A.xP ["script","first","most","backs"]
 wz:DF K mg "_law_seen" oq A.xQ A.xR ["desk","store","files"]
 qh:DF K mg "_law_which" qb A.vd A.ve ["e"]
 Ee:DF K mg "_law_due" qc A.zC A.zD ["place"]
 vp:DF K mg "_law_ask" tW A.zE A.zF ["desk","what","store","other","file"]
 vq:DF K mg "_law_refused" nF A.rK A.rL ["desk","what","store","other","file"]
 iK:EY K A.gH
 NQ:Mk K A.gH A.mL
 NR:mg "Line"=some (.ref A.gH)
 gE:jR K A.gH "name"
 jE:jR K A.gH "text"
 iE:jR K A.gH "upper_name"
 iF:jR K A.gH "lower_name"
 jl:EY K A.hE
 Cn:Mk K A.hE A.ma
 Co:mg "Patch"=some (.ref A.hE)
 iT:jR K A.hE "name"
 kj:jR K A.hE "file"
 jL:jR K A.hE "puts"
 jM:jR K A.hE "cuts"
 iV:jR K A.hE "other"
 jQ:EY K A.hU
 Lv:Mk K A.hU A.me
 Lw:mg "Sight"=some (.ref A.hU)
 jt:jR K A.hU "ahead"
 iq:jR K A.hU "lines"
 gn:EY K A.gk
 NT:Mk K A.gk A.mO
 NU:mg "Desk"=some (.ref A.gk)
 iM:jR K A.gk "made"
 i8:jR K A.gk "needs"
 ip:jR K A.gk "held"
 Cp:Exc K mg "PatchError" A.jk
 wA:Exc K mg "BadName" A.i5
 rW:Exc K mg "NameTaken" A.iQ
 Bv:Exc K mg "NoStore" A.gj
 wB:Exc K mg "NoPatch" A.jc
 Ef:Exc K mg "NoLine" A.kS
 xT:Exc K mg "Unsettled" A.jB
 Fu:Exc K mg "Same" A.oQ
 Gx:Exc K mg "Leant" A.oE
 Cq:mg "NAME_SIGNS"=some (.str (Str.ofString "abcdefghijklmnopqrstuvwxyz0123456789") A.m_)
 rX:mg "LONGEST_NAME"=some (.int 12 A.lN)
 HC:DJ K A.gj
 jF:PySem.W.kitOne K (.ref A.gj) (.ref A.jk)=some true
 jG:PySem.W.kitOne K (.ref A.gj) (.ref A.i5)=some false
 jf:PySem.W.kitOne K (.ref A.gj) (.ref A.iQ)=some false
 jH:PySem.W.kitOne K (.ref A.gj) (.ref A.gj)=some true
 jI:PySem.W.kitOne K (.ref A.gj) (.ref A.jc)=some false
 jW:PySem.W.kitOne K (.ref A.gj) (.ref A.kS)=some false
 jg:PySem.W.kitOne K (.ref A.gj) (.ref A.jB)=some false
 kD:PySem.W.kitOne K (.ref A.gj) (.ref A.oQ)=some false
 j_:PySem.W.kitOne K (.ref A.gj) (.ref A.oE)=some false
 rY:PySem.W.kitOne K (.ref A.gj) (.type "ValueError")=some true
 pJ:Fg K A.gj A.jk=true
 qi:Fg K A.gj A.gj=true
 z:True
open PySem L2 PM
def nk(n:Nm):List Key:=[Sum.inr n.1,Sum.inl (n.2:Int)]
theorem oS{a b:Nm}(h:nk a=nk b):a=b:=by
 unfold nk at h
 injection h with h1 h2
 injection h2 with h2 _
 exact Prod.ext (Sum.inr.inj h1) (by have:=Sum.inl.inj h2;omega)
abbrev nT(n:Nm):HO:=.tup ((nk n).map kV)
def lr(H:Hp)(v:V)(n:Nm):Prop:=∃t,v=.ref t∧H t=some (nT n)
def Fv(H:Hp)(v:V):Option Nm→Prop
 | none=>v=.jv
 | some n=>lr H v n
def S5(v:V):Option Str→Prop
 | none=>v=.jv
 | some x=>v=.str x
def Lx(a b c d:V):List (Str×V):=[("name",a),("text",b),("upper_name",c),("lower_name",d)]
theorem iW{a b c d:V}:(Lx a b c d).lookup ("name":Str)=some a:=by kernel_rfl
theorem zL{a b c d:V}:(Lx a b c d).lookup ("text":Str)=some b:=by kernel_rfl
theorem Fw{a b c d:V}:(Lx a b c d).lookup ("upper_name":Str)=some c:=by kernel_rfl
theorem Fx{a b c d:V}:(Lx a b c d).lookup ("lower_name":Str)=some d:=by kernel_rfl
def Ly(a b c d e:V):List (Str×V):=[("name",a),("file",b),("puts",c),("cuts",d),("other",e)]
theorem rZ{a b c d e:V}:(Ly a b c d e).lookup ("name":Str)=some a:=by kernel_rfl
theorem JJ{a b c d e:V}:(Ly a b c d e).lookup ("file":Str)=some b:=by kernel_rfl
theorem Eg{a b c d e:V}:(Ly a b c d e).lookup ("puts":Str)=some c:=by kernel_rfl
theorem Eh{a b c d e:V}:(Ly a b c d e).lookup ("cuts":Str)=some d:=by kernel_rfl
theorem sO{a b c d e:V}:(Ly a b c d e).lookup ("other":Str)=some e:=by kernel_rfl
def mR(A:Ad)(H:Hp)(a:Addr)(l:Ln):Prop:=∃dx vn vu vl,H a=some (.ins A.gH dx (Lx vn (.str l.tx) vu vl))∧lr H vn l.nm∧Fv H vu l.up∧Fv H vl l.lo
def qj(A:Ad)(H:Hp)(a:Addr)(ls:List Ln):Prop:=∃as:List Addr,H a=some (.lst (as.map V.ref))∧Paired (mR A H) as ls
def zM(H:Hp)(a:Addr)(ns:List Nm):Prop:=∃vs,H a=some (.lst vs)∧Paired (lr H) vs ns
def nS(A:Ad)(H:Hp)(a:Addr)(p:Pt):Prop:=∃dx vf pu cu vo,H a=some (.ins A.hE dx (Ly (.str p.nm) vf (.ref pu) (.ref cu) vo))∧S5 vf p.file∧qj A H pu p.iD∧zM H cu p.j4∧S5 vo p.other
def ye(A:Ad)(H:Hp)(a:Addr)(ps:List Pt):Prop:=∃as:List Addr,H a=some (.lst (as.map V.ref))∧Paired (nS A H) as ps
section
variable{A:Ad}{H H':Hp}{a:Addr}
theorem lr.same{v:V}{n:Nm}(x:lr H v n)(s:gb H H'):lr H' v n:=by obtain⟨t,e,h⟩:=x;exact⟨t,e,s _ _ h⟩
theorem Fv.same{v:V}{o:Option Nm}(x:Fv H v o)(s:gb H H'):Fv H' v o:=by
 cases o with
 | none=>exact x
 | some n=>exact lr.same x s
theorem mR.same{l:Ln}(x:mR A H a l)(s:gb H H'):mR A H' a l:=by
 obtain⟨dx,vn,vu,vl,h,h1,h2,h3⟩:=x
 exact⟨dx,vn,vu,vl,s _ _ h,h1.same s,h2.same s,h3.same s⟩
theorem qj.same{ls:List Ln}(x:qj A H a ls)(s:gb H H'):qj A H' a ls:=by
 obtain⟨as,h,p⟩:=x
 exact⟨as,s _ _ h,Paired.kx p fun _ _ z=>z.same s⟩
theorem zM.same{ns:List Nm}(x:zM H a ns)(s:gb H H'):zM H' a ns:=by
 obtain⟨vs,h,p⟩:=x
 exact⟨vs,s _ _ h,Paired.kx p fun _ _ z=>z.same s⟩
theorem nS.same{p:Pt}(x:nS A H a p)(s:gb H H'):nS A H' a p:=by
 obtain⟨dx,vf,pu,cu,vo,h,h1,h2,h3,h4⟩:=x
 exact⟨dx,vf,pu,cu,vo,s _ _ h,h1,h2.same s,h3.same s,h4⟩
theorem ye.same{ps:List Pt}(x:ye A H a ps)(s:gb H H'):ye A H' a ps:=by
 obtain⟨as,h,p⟩:=x
 exact⟨as,s _ _ h,Paired.kx p fun _ _ z=>z.same s⟩
end
theorem iy{α β:Type}{F:α→β→Prop}{xs:List α}{ys:List β}(p:Paired F xs ys):∀{i:Nat} {x:α},xs[i]?=some x→∃y,ys[i]?=some y∧F x y:=by
 induction p with
 | nil=>intro i x h;simp at h
 | cons f t ih=>
   intro i x h
   cases i with
   | zero=>simp at h;subst h;exact⟨_,rfl,f⟩
   | succ i=>simpa using ih (by simpa using h)
theorem lj{α β:Type}{F:α→β→Prop}{xs:List α}{ys:List β}(p:Paired F xs ys):∀{i:Nat} {y:β},ys[i]?=some y→∃x,xs[i]?=some x∧F x y:=by
 induction p with
 | nil=>intro i x h;simp at h
 | cons f t ih=>
   intro i x h
   cases i with
   | zero=>simp at h;subst h;exact⟨_,rfl,f⟩
   | succ i=>simpa using ih (by simpa using h)
theorem t_{α β:Type}{F:α→β→Prop}{xs zs:List α}{ys ws:List β}(p:Paired F xs ys)(q:Paired F zs ws):Paired F (xs++zs) (ys++ws):=by
 induction p with
 | nil=>exact q
 | cons f t ih=>exact .cons f ih
theorem il{α β:Type}{F:α→β→Prop}{xs:List α}{ys:List β}{x:α}{y:β}(p:Paired F xs ys)(h:F x y):Paired F (xs++[x]) (ys++[y]):=t_ p (.cons h .nil)
theorem zN{α β:Type}{F:α→β→Prop}{xs:List α}{ys:List β}(p:Paired F xs ys):Paired F xs.reverse ys.reverse:=by
 induction p with
 | nil=>exact .nil
 | cons f t ih=>rw[List.reverse_cons,List.reverse_cons];exact il ih f
theorem j7{as:List Addr}{i:Nat}{v:V}(h:(as.map V.ref)[i]?=some v):∃b,as[i]?=some b∧v=.ref b:=by
 rw[aah] at h
 obtain⟨b,e,rfl⟩:=aaA.mp h
 exact⟨b,e,rfl⟩
theorem S5.eq{v:V}{o:Option Str}(h:S5 v o)(f:Str):decide (v=.str f)=decide (o=some f):=by
 cases o with
 | none=>rw[show v=.jv from h,XX (fun z=>by cases z),XX (fun z=>by cases z)]
 | some x=>
   rw[show v=.str x from h]
   by_cases e:x=f
   · subst e;rw[UW rfl,UW rfl]
   · rw[XX (fun z=>e (V.str.inj z)),XX (fun z=>e (aat z))]
theorem MG{α:Type}{xs:List α}{x:α}{i:Nat}(h:xs.length≤i:=by assumption):(xs++[x]).length≤i+1:=by rw[VO];exact Nat.succ_le_succ h
def wC(n:Nat):Prop:=n≤4000
theorem wC.sz{n:Nat}(h:wC n):n≤sizeLine:=aac h (by decide)
section
variable{P:Program}{w:World}{K:PySem.W.Frag}{mg:Str→Option Value}{base:Heap}{A:Ad}
def NV(A:Ad):Sp:=fun vs H Q _=>∃(a:Addr)(ps:List Pt),vs=[.ref a]∧ye A H a ps∧wC ps.length∧∀p H',gb H H'→H p=none→ye A H' p (live ps)→Q (.ref p) H'
def Tb(kvs:List (Key×V))(t:List Str):Prop:=∀x,(iL kvs (Sum.inr x)).isSome=decide (x∈t)
theorem Tb.put{kvs:List (Key×V)}{t:List Str}(h:Tb kvs t)(y:Str)(v:V):Tb (putK kvs (Sum.inr y) v) (y::t):=fun x=>by
 rw[j8]
 by_cases e:x=y
 · subst e;rw[aap rfl,UW aan];rfl
 · rw[aak (fun z=>e (Sum.inr.inj z)),h x]
   by_cases m:x∈t
   · rw[UW m,UW (aag _ m)]
   · rw[XX m,XX (fun z=>(XU.mp z).elim e m)]
theorem Fy(p:Pt)(r:List Pt)(t:List Str):qA (p::r) t=if p.nm∈t then qA r t else p::qA r (match p.other with|some o=>o::t|none=>t):=rfl
theorem yf(T:Txt mg)(O:Ok K mg A):ie P w K mg base lZ 1 A.rB A.rC ["patches"] (NV A):=by
 refine O.vg.f.ok kU (fun vs H Q E h=>?_) (fun jd A0 outer s H vs Q E hr h=>?_)
 · obtain⟨a,ps,rfl,_⟩:=h
   rfl
 · obtain⟨a,ps,rfl,⟨as,ha,pa⟩,jK,q⟩:=h
   have hlen:=Paired.length pa
   refine⟨_,(c_ (gw (i:=1) kU.nd rfl (Or.inl rfl) ni)
     (c_ (gw (i:=2) kU.nd rfl (Or.inl rfl) (iC d_))
     (c_ (iO PassesOwn.never rfl (Lg rfl T.zv (a_ (pv 0) d_)) (gA (i:=3) kU.nd rfl (Or.inl rfl)) (e_ (iw (jq (lb (by exact ic hr) (gz (pv 3) rfl) (pv 1))) (c_ (hZ (qy aaG aaS aaT kF (pv 2) (a_ (pv 3) d_)))
     (e_ (iw (jq (sE (gz (pv 3) rfl))) (e_ (ju (by exact ic hr) (pv 1) (gz (pv 3) rfl) qR rfl)) hG))) hG)))
     (e_ (gG (Fh rfl (by rfl) T.zu (by rfl) T.zv (a_ (pv 2) d_))))))),?_⟩
   intro t ht
   have s1:gb H (upd H t (.dK [])):=(gb.refl H).new ht
   refine⟨L2.jK,fun l hl=>?_⟩
   have s2:gb H (upd (upd H t (.dK [])) l (.lst [])):=s1.new hl
   have OQ:t≠l:=fun z=>by rw[z] at hl;rw[b_] at hl;cases hl
   refine⟨_,rfl,a,_,rfl,hV.of (s2 a _ ha),Lh (K:=K) (a:=a) (xs:=as.map V.ref) (fun i σ H2=>∃(v:Option V)(kvs:List (Key×V))(tb:List Str)(ls:List Addr)(lp:List Pt),σ=[some (.ref a),some (.ref t),some (.ref l),v]∧gb H H2∧H2 t=some (.dK kvs)∧Tb kvs tb∧kvs.length≤i∧H2 l=some (.lst (ls.map V.ref))∧ls.length≤i∧Paired (nS A H) ls lp∧lp++qA (ps.reverse.drop i) tb=qA ps.reverse [])
     ⟨none,[],[],[],[],rfl,s2,by rw[de OQ];exact b_,(fun x=>rfl),UU _,b_,UU _,.nil,rfl⟩ (fun i σ H2 _ ⟨_,_,_,_,_,_,s3,_⟩=>hV.of (s3 a _ ha)) ?_ ?_⟩
   · rintro i v σ H2 hx ⟨v0,kvs,tb,ls,lp,rfl,s3,h1,h2,h3,h4,h5,h6,h7⟩
     rw[←List.map_reverse] at hx
     obtain⟨b,hb,rfl⟩:=j7 hx
     obtain⟨p,hp,dx,vf,pu,cu,vo,g1,g2,g3,g4,g5⟩:=iy (zN pa) hb
     have hi:i<ps.reverse.length:=(RL.mp hp).1
     have AY:i<4000:=by rw[aa7] at hi;exact aaw hi jK
     have hd:ps.reverse.drop i=p::ps.reverse.drop (i+1):=by rw[aaL hi];congr 1;exact(RL.mp hp).2
     rw[hd] at h7
     refine⟨_,rfl,b,A.hE,dx,_,_,rfl,s3 _ _ g1,O.jl,O.iT,rZ,_,rfl,t,_,rfl,i3.k (k:=Sum.inr p.nm) h1,_,rfl,?_⟩
     rw[h2 p.nm]
     rw[Fy] at h7
     by_cases hm:p.nm∈tb
     · rw[aap hm] at h7
       rw[UW hm]
       exact k7 ⟨_,kvs,tb,ls,lp,rfl,s3,h1,h2,by omega,h4,by omega,h6,h7⟩
     · rw[aak hm] at h7
       rw[XX hm]
       refine mD ?_
       refine⟨_,rfl,.inl ⟨rfl,_,hV.of h4⟩,_,rfl,l,_,_,rfl,rfl,h4,by rw[RF];exact aa9 h5 (Nat.lt_trans AY (by decide)),?_⟩
       have VP:H l=none:=s1.free hl
       have s4:gb H (upd H2 l (.lst (ls.map V.ref++[V.ref b]))):=s3.upd VP
       have LY:upd H2 l (.lst (ls.map V.ref++[V.ref b])) t=some (.dK kvs):=by rw[de OQ];exact h1
       have e4:upd H2 l (.lst (ls.map V.ref++[V.ref b])) l=some (.lst ((ls++[b]).map V.ref)):=by rw[b_,aam];rfl
       have pp:Paired (nS A H) (ls++[b]) (lp++[p]):=il h6 ⟨dx,vf,pu,cu,vo,g1,g2,g3,g4,g5⟩
       have RM:(ls++[b]).length≤i+1:=MG
       refine⟨_,rfl,b,A.hE,dx,_,_,rfl,s4 _ _ g1,O.jl,O.iV,sO,_,rfl,?_⟩
       cases ho:p.other with
       | none=>
         rw[ho] at g5 h7
         rw[show vo=V.jv from g5]
         exact⟨_,kvs,tb,_,_,rfl,s4,LY,h2,by omega,e4,RM,pp,by rw[aaK];exact h7⟩
       | some x=>
         rw[ho] at g5 h7
         rw[show vo=V.str x from g5] at g1 ⊢
         refine⟨_,rfl,_,rfl,b,A.hE,dx,_,_,rfl,s4 _ _ g1,O.jl,O.iV,sO,t,_,rfl,mY.k (k:=Sum.inr x) LY (aa9 h3 (Nat.lt_trans AY (by decide))),?_⟩
         have YB:=jn kvs (Sum.inr x:Key) (V.bl true)
         have htH:H t=none:=ht
         exact⟨_,_,x::tb,_,_,rfl,s4.upd htH,b_,h2.put x _,by omega,by rw[de OQ.symm];exact e4,RM,pp,by rw[aaK];exact h7⟩
   · rintro σ H2 ⟨v0,kvs,tb,ls,lp,rfl,s3,h1,h2,h3,h4,h5,h6,h7⟩
     rw[RF] at h3 h5 h7
     rw[hlen,←aa7,abL] at h7
     have h7:lp=qA ps.reverse []:=by rw[show qA [] tb=[] from rfl,aaB] at h7;exact h7
     refine⟨_,rfl,l,_,rfl,hV.of h4,fun p hp=>?_⟩
     have s4:=s3.new (o:=.lst (ls.map V.ref).reverse) hp
     refine q p _ s4 (s3.free hp) ⟨ls.reverse,by rw[b_,List.map_reverse],?_⟩
     unfold live
     rw[←h7]
     exact Paired.kx (zN h6) fun _ _ z=>z.same s4
end
theorem r9{α β:Type}{f:α→List β}{ps qs:List α}(h:ps.Sublist qs):(ps.flatMap f).Sublist (qs.flatMap f):=by
 induction h with
 | slnil=>exact aax _
 | cons x _ ih=>rw[aay];exact ih.trans (aaW _ _)
 | cons_cons x _ ih=>rw[aay,aay];exact(aax _).append ih
structure Small(ps:List Pt):Prop where
 many:wC ps.length
 iD:wC (ps.flatMap (·.iD)).length
 j4:wC (ps.flatMap (·.j4)).length
theorem Small.sub{ps qs:List Pt}(h:ps.Sublist qs)(s:Small qs):Small ps:=⟨aac h.length_le s.many,aac (r9 h).length_le s.iD,aac (r9 h).length_le s.j4⟩
theorem qk(ps:List Pt)(f:Str):(g_ ps f).length≤(ps.flatMap (·.iD)).length:=(r9 aaN).length_le
theorem AM(ps:List Pt)(p:Pt)(f:Str):g_ (ps++[p]) f=g_ ps f++if p.file=some f then p.iD else[]:=by
 unfold g_
 rw[aaF,abk]
 by_cases h:p.file=some f
 · rw[aap h,XW (by simpa using h),aaR,aay,abh,aaB]
 · rw[aak h,aaf (by simpa using h),aaR,abh]
theorem take_snoc{α:Type}{xs:List α}{i:Nat}{x:α}(h:xs[i]?=some x):xs.take (i+1)=xs.take i++[x]:=by rw[List.take_add_one,h];rfl
def Pl(kvs:List (List Key×V))(ns:List Nm):Prop:=∀n,(iL kvs (nk n)).isSome=decide (n∈ns)
theorem Pl.put{kvs:List (List Key×V)}{ns:List Nm}(h:Pl kvs ns)(y:Nm)(v:V):Pl (putK kvs (nk y) v) (ns++[y]):=fun x=>by
 rw[j8]
 by_cases e:x=y
 · subst e;rw[aap rfl,UW (by simp)];rfl
 · rw[aak (fun z=>e (oS z)),h x]
   by_cases m:x∈ns
   · rw[UW m,UW (aal _ m)]
   · rw[XX m,XX (fun z=>(aaa.mp z).elim m fun z=>e (UP.mp z))]
section
variable{P:Program}{w:World}{K:PySem.W.Frag}{mg:Str→Option Value}{base:Heap}{A:Ad}
def QF(A:Ad):Sp:=fun vs H Q _=>∃(a:Addr)(ps:List Pt)(f:Str),vs=[.ref a,.str f]∧ye A H a ps∧Small ps∧∀p H',gb H H'→H p=none→qj A H' p (g_ ps f)→Q (.ref p) H'
theorem vt(T:Txt mg)(O:Ok K mg A):ie P w K mg base lZ 1 A.xl A.xm ["patches","file"] (QF A):=by
 refine O.wq.f.ok qd (fun vs H Q E h=>?_) (fun jd A0 outer s H vs Q E hr h=>?_)
 · obtain⟨a,ps,f,rfl,_⟩:=h
   rfl
 · obtain⟨a,ps,f,rfl,⟨as,ha,pa⟩,sm,q⟩:=h
   have hlen:=Paired.length pa
   refine⟨_,(c_ (gw (i:=2) qd.nd rfl (Or.inl rfl) (iC d_))
     (c_ (iO PassesOwn.never rfl (iz (pv 0)) (gA (i:=3) qd.nd rfl (Or.inl rfl)) (e_ (iw (ib jO (gz (pv 3) rfl) (pv 1) (ij _)) (e_ (hZ (qy aaG PySem.F.slot_list_extend PySem.F.type_list_extend A_ (pv 2) (a_ (gz (pv 3) rfl) d_)))) hG)))
     (e_ (gG (pv 2))))),?_⟩
   refine⟨L2.jK,fun l hl=>?_⟩
   have s1:gb H (upd H l (.lst [])):=(gb.refl H).new hl
   refine⟨_,rfl,a,rfl,⟨_,hV.of (s1 a _ ha)⟩,jr (K:=K) (a:=a) (xs:=as.map V.ref) (fun i σ H2=>∃(v:Option V)(ls:List Addr),σ=[some (.ref a),some (.str f),some (.ref l),v]∧gb H H2∧H2 l=some (.lst (ls.map V.ref))∧Paired (mR A H) ls (g_ (ps.take i) f))
     ⟨none,[],rfl,s1,b_,.nil⟩ (fun i σ H2 _ ⟨_,_,_,s3,_⟩=>hV.of (s3 a _ ha)) ?_ ?_⟩
   · rintro i v σ H2 hx ⟨v0,ls,rfl,s3,h4,h6⟩
     obtain⟨b,hb,rfl⟩:=j7 hx
     obtain⟨p,hp,dx,vf,pu,cu,vo,g1,g2,⟨as2,g3,RN⟩,g4,g5⟩:=iy pa hb
     have e:g_ (ps.take (i+1)) f=g_ (ps.take i) f++if p.file=some f then p.iD else[]:=by rw[take_snoc hp,AM]
     refine⟨_,rfl,b,A.hE,dx,_,_,rfl,s3 _ _ g1,O.jl,O.kj,JJ,_,rfl,?_⟩
     have hf:Nb vf (V.str f)=true:=by
       cases hq:p.file with
       | none=>rw[hq] at g2;rw[show vf=V.jv from g2];rfl
       | some x=>rw[hq] at g2;rw[show vf=V.str x from g2];rfl
     refine⟨hf,_,rfl,?_⟩
     rw[g2.eq f]
     by_cases hm:p.file=some f
     · rw[aap hm] at e
       rw[UW hm]
       refine mD ?_
       refine⟨_,rfl,.inl ⟨rfl,_,hV.of h4⟩,_,rfl,b,A.hE,dx,_,_,rfl,s3 _ _ g1,O.jl,O.jL,Eg,l,pu,_,_,rfl,rfl,h4,s3 _ _ g3,?_,?_⟩
       · rw[RF,RF,Paired.length h6,Paired.length RN,←VO,←e]
         exact aac (qk _ f) (Small.sub (abG _ _) sm).iD.sz
       · refine⟨_,ls++as2,rfl,s3.upd hl,by rw[b_,aam],?_⟩
         rw[e]
         exact t_ h6 RN
     · rw[aak hm,aaB] at e
       rw[XX hm]
       exact k7 ⟨_,ls,rfl,s3,h4,by rw[e];exact h6⟩
   · rintro σ H2 ⟨v0,ls,rfl,s3,h4,h6⟩
     rw[RF,hlen,aaj] at h6
     exact⟨_,rfl,q l _ s3 hl ⟨ls,h4,Paired.kx h6 fun _ _ z=>z.same s3⟩⟩
theorem HD(ps:List Pt)(p:Pt):gone (ps++[p])=gone ps++p.j4:=by
 unfold gone
 rw[abk,aay,abh,aaB]
def Lz(A:Ad):Sp:=fun vs H Q _=>∃(a:Addr)(ps:List Pt)(f:Str),vs=[.ref a,.str f]∧ye A H a ps∧Small ps∧∀p H',gb H H'→H p=none→qj A H' p (nu ps f)→Q (.ref p) H'
theorem vw(T:Txt mg)(O:Ok K mg A):ie P w K mg base lZ 2 A.pk A.pq ["patches","file"] (Lz A):=by
 have z_:=yf (P:=P) (w:=w) (base:=base) T O
 have sv:=vt (P:=P) (w:=w) (base:=base) T O
 refine O.rO.f.ok jb (fun vs H Q E h=>?_) (fun jd A0 outer s H vs Q E hr h=>?_)
 · obtain⟨a,ps,f,rfl,_⟩:=h
   rfl
 · obtain⟨a,ps,f,rfl,pa,sm,q⟩:=h
   refine⟨_,(c_ (gw (i:=2) jb.nd rfl (Or.inl rfl) (pc0 O.vg z_ hr (a_ (pv 0) d_)))
     (c_ (gw (i:=3) jb.nd rfl (Or.inr rfl) mr)
     (c_ (iO PassesOwn.never rfl (iz (pv 2)) (gA (i:=4) jb.nd rfl (Or.inl rfl)) (e_ (iO PassesOwn.never rfl (iz (gz (pv 4) rfl)) (gA (i:=5) jb.nd rfl (Or.inl rfl)) (e_ (ju (by exact ic hr) (pv 3) (pv 5) qR rfl)))))
     (e_ (gG (yV pe (fU kK).names [6] rfl (iz (pc0 O.wq sv hr (a_ (pv 2) (a_ (pv 1) d_)))) rfl (by decide+kernel) (fun _ _ _ _=>(gA (i:=6) jb.nd rfl (Or.inl rfl))) (fun _ _ _ _=>⟨_,pR (jq (lb (by exact ic hr) (gz (pv 6) rfl) (pv 3))),by(try simp only [ir]);rfl⟩) (fun _ _ _ _=>⟨_,(pv 6),by(try simp only [ir]);rfl⟩))))))),?_⟩
   refine⟨_,rfl,a,ps,rfl,pa,sm.many,fun l H1 s1 Pz Ig=>?_⟩
   have VQ:Small (live ps):=sm.sub (DT ps)
   obtain⟨as,ha,pl⟩:=id Ig
   have hlen:=Paired.length pl
   intro g hg
   have s2:gb H1 (upd H1 g (.dT [])):=(gb.refl H1).new hg
   refine⟨_,rfl,l,rfl,⟨_,hV.of (s2 l _ ha)⟩,jr (K:=K) (a:=l) (xs:=as.map V.ref) (fun i σ H2=>∃(v4 v5:Option V)(kvs:List (List Key×V)),σ=[some (.ref a),some (.str f),some (.ref l),some (.ref g),v4,v5,none]∧gb H1 H2∧H2 g=some (.dT kvs)∧Pl kvs (gone ((live ps).take i))∧kvs.length≤(gone ((live ps).take i)).length)
     ⟨none,none,[],rfl,s2,b_,(fun x=>rfl),UU _⟩ (fun i σ H2 _ ⟨_,_,_,_,s3,_⟩=>hV.of (s3 l _ ha)) ?_ ?_⟩
   · rintro i v σ H2 hx ⟨v4,v5,kvs,rfl,s3,h1,h2,h3⟩
     obtain⟨b,hb,rfl⟩:=j7 hx
     obtain⟨p,hp,dx,vf,pu,cu,vo,g1,g2,g3,⟨cs,g4,PB⟩,g5⟩:=iy pl hb
     have e:gone ((live ps).take (i+1))=gone ((live ps).take i)++p.j4:=by rw[take_snoc hp,HD]
     have hsz:(gone ((live ps).take i)++p.j4).length≤4000:=by rw[←e];exact(VQ.sub (abG _ _)).j4
     rw[VO] at hsz
     have MH:=Paired.length PB
     refine⟨_,rfl,b,A.hE,dx,_,_,rfl,s3 _ _ g1,O.jl,O.jM,Eh,cu,rfl,⟨_,hV.of (s3 _ _ g4)⟩,jr (K:=K) (a:=cu) (xs:=cs) (fun j σ H3=>∃(v5:Option V)(kvs:List (List Key×V)),σ=[some (.ref a),some (.str f),some (.ref l),some (.ref g),some (.ref b),v5,none]∧gb H1 H3∧H3 g=some (.dT kvs)∧Pl kvs (gone ((live ps).take i)++p.j4.take j)∧kvs.length≤(gone ((live ps).take i)).length+j)
       ⟨v5,kvs,rfl,s3,h1,by rw[abj,aaB];exact h2,by omega⟩ (fun j σ H3 _ ⟨_,_,_,s4,_⟩=>hV.of (s4 cu _ g4)) ?_ ?_⟩
     · rintro j v σ H3 hx ⟨v5,kvs,rfl,s4,h1,h2,h3⟩
       obtain⟨n,hn,t,rfl,ht⟩:=iy PB hx
       have hj:j<cs.length:=(RL.mp hx).1
       refine⟨_,rfl,_,rfl,g,_,rfl,mY.t (k:=nk n) h1 (s4 _ _ ht) (aa9 (m:=4000) (by omega) (by decide)),?_⟩
       have YB:=jn kvs (nk n) (V.bl true)
       refine⟨_,_,rfl,s4.upd hg,b_,?_,by omega⟩
       rw[take_snoc hn,←aaK]
       exact h2.put n _
     · rintro σ H3 ⟨v5,kvs,rfl,s4,h1,h2,h3⟩
       rw[MH,aaj] at h2
       rw[MH] at h3
       exact⟨_,v5,kvs,rfl,s4,h1,by rw[e];exact h2,by rw[e,VO];exact h3⟩
   · rintro σ H2 ⟨v4,v5,kvs,rfl,s3,h1,h2,h3⟩
     rw[RF,hlen,aaj] at h2
     refine⟨_,rfl,_,rfl,l,live ps,f,rfl,Ig.same s3,VQ,fun p H3 s4 qN ⟨VR,YC,YD⟩=>?_⟩
     have YE:VR.length=(g_ (live ps) f).length:=Paired.length YD
     have hbound:VR.length≤4000:=by rw[YE];exact aac (qk _ _) VQ.iD
     refine⟨p,rfl,⟨_,hV.of YC⟩,j2 (K:=K) (a:=p) (xs:=VR.map V.ref) (by rw[RF];exact aac hbound (by decide)) (fun i ys σ H4=>∃(v6:Option V)(ls:List Addr),σ=[some (.ref a),some (.str f),some (.ref l),some (.ref g),v4,v5,v6]∧H4=H3∧ys=ls.map V.ref∧ls.length≤i∧Paired (mR A H3) ls (((g_ (live ps) f).take i).filter fun l=>l.nm∉gone (live ps)))
       ⟨none,[],rfl,rfl,rfl,UU _,.nil⟩ (fun i ys σ H4 _ ⟨_,ls,_,e,e2,e3,_⟩=>by subst e e2;exact⟨hV.of YC,by rw[RF];exact e3⟩) ?_ ?_⟩
     · rintro i v ys σ H4 hx ⟨v6,ls,rfl,rfl,rfl,e3,h6⟩
       obtain⟨b,hb,rfl⟩:=j7 hx
       obtain⟨ln,yk,dx,vn,vu,vl,k1,⟨t,rfl,k2⟩,k3,k4⟩:=iy YD hb
       refine⟨_,rfl,b,A.gH,dx,_,_,rfl,k1,O.iK,O.gE,iW,_,rfl,g,_,rfl,i3.t (k:=nk ln.nm) (s4 _ _ h1) k2,_,rfl,?_⟩
       rw[h2 ln.nm,take_snoc yk,aaF]
       by_cases hm:ln.nm∈gone (live ps)
       · rw[UW hm]
         refine k7 ⟨_,ls,rfl,rfl,rfl,by omega,?_⟩
         rw[aaf (by simpa using hm),aaR,aaB]
         exact h6
       · rw[XX hm]
         refine mD ⟨_,rfl,_,ls++[b],rfl,rfl,by rw[aam];rfl,MG,?_⟩
         rw[XW (by simpa using hm),aaR]
         exact il h6 ⟨dx,.ref t,vu,vl,k1,⟨t,rfl,k2⟩,k3,k4⟩
     · rintro ys σ H4 ⟨v6,ls,rfl,rfl,rfl,e3,h6⟩ p2 yi
       rw[RF,YE,aaj] at h6
       have s5:=((s1.trans s3).trans s4).new (o:=.lst (ls.map V.ref)) yi
       refine q p2 _ s5 (((s1.trans s3).trans s4).free yi) ⟨ls,b_,?_⟩
       exact Paired.kx h6 fun _ _ z=>z.same ((gb.refl H4).new yi)
end
theorem pK{κ:Type}[DecidableEq κ](kvs:List (κ×V))(k:κ)(v:V):(putK kvs k v).map (·.1)=if k∈kvs.map (·.1) then kvs.map (·.1) else kvs.map (·.1)++[k]:=by
 unfold putK
 by_cases h:k∈kvs.map (·.1)
 · have h':(kvs.any fun kv=>decide (kv.1=k))=true:=by
     obtain⟨p,hp,e⟩:=aaz.mp h
     exact List.any_eq_true.mpr ⟨p,hp,UW e⟩
   rw[aap h',aap h,List.map_map]
   refine abv fun p _=>?_
   show(if p.1=k then(p.1,v) else p).1=p.1
   split<;>rfl
 · have h':¬(kvs.any fun kv=>decide (kv.1=k))=true:=fun z=>by
     obtain⟨p,hp,e⟩:=List.any_eq_true.mp z
     exact h (aaz.mpr ⟨p,hp,aar e⟩)
   rw[aak h',aak h,aam]
   rfl
theorem sP{κ:Type}[DecidableEq κ]{kvs:List (κ×V)}{k:κ}:(iL kvs k).isSome=true↔k∈kvs.map (·.1):=by
 induction kvs with
 | nil=>exact⟨(fun z=>by cases z),(fun z=>by cases z)⟩
 | cons p r ih=>
   by_cases e:p.1=k
   · rw[je e,aao,e];exact⟨fun _=>aan,fun _=>rfl⟩
   · rw[i_ e,ih,aao]
     exact⟨fun m=>aag _ m,fun z=>(XU.mp z).elim (fun z=>absurd z.symm e) id⟩
theorem Ei{κ:Type}[DecidableEq κ]{kvs:List (κ×V)}{k:κ}(h:k∉kvs.map (·.1)):iL kvs k=none:=by
 cases e:iL kvs k with
 | none=>rfl
 | some v=>exact absurd (sP.mp (by rw[e];rfl)) h
theorem r_{n:Nm}{l:List Nm}:nk n∈l.map nk↔n∈l:=by
 constructor
 · intro h
   obtain⟨m,hm,e⟩:=aaz.mp h
   rw[←oS e];exact hm
 · exact fun h=>aab h
def AN(H:Hp)(a:Addr)(l:List Nm):Prop:=∃dk,H a=some (.dT dk)∧dk.map (·.1)=l.map nk
def nU(l:List Nm)(m:Nm):List Nm:=if m∈l then l else l++[m]
theorem sd{l:List Nm}{m x:Nm}:x∈nU l m↔x∈l∨x=m:=by
 unfold nU
 split
 · rename_i h
   exact⟨.inl,fun z=>z.elim id fun z=>z▸h⟩
 · simp
theorem yz{l:List Nm}{m:Nm}(h:l.Nodup):(nU l m).Nodup:=by
 unfold nU
 split
 · exact h
 · rename_i hm
   rw[aaU]
   exact⟨h,by simp,fun a ha b hb z=>hm (by rw[UP.mp hb] at z;exact z▸ha)⟩
theorem Ej{l:List Nm}{m:Nm}:(nU l m).length≤l.length+1:=by
 unfold nU
 split
 · omega
 · rw[VO];exact UU _
theorem vy{dk:List (List Key×V)}{l:List Nm}(h:dk.map (·.1)=l.map nk)(m:Nm)(v:V):(putK dk (nk m) v).map (·.1)=(nU l m).map nk:=by
 rw[pK,h]
 unfold nU
 by_cases e:m∈l
 · rw[aap (r_.mpr e),aap e]
 · rw[aak (fun z=>e (r_.mp z)),aak e,aam];rfl
def zk(ns:List Nm)(ds:List Addr):List (List Key×V):=List.zipWith (fun n d=>(nk n,V.ref d)) ns ds
theorem Gy:∀{ns:List Nm} {ds:List Addr} (n:Nm) (d:Addr),ns.length=ds.length→zk (ns++[n]) (ds++[d])=zk ns ds++[(nk n,V.ref d)]
 | [],[],_,_,_=>rfl
 | [],_::_,_,_,h=>by simp at h
 | _::_,[],_,_,h=>by simp at h
 | x::r,y::t,n,d,h=>by
   show(nk x,V.ref y)::zk (r++[n]) (t++[d])=_
   rw[Gy n d (by simpa using h)]
   rfl
theorem Cr:∀{ns:List Nm} {ds:List Addr},ns.length=ds.length→(zk ns ds).map (·.1)=ns.map nk
 | [],[],_=>rfl
 | [],_::_,h=>by simp at h
 | _::_,[],h=>by simp at h
 | x::r,y::t,h=>by
   show nk x::(zk r t).map (·.1)=nk x::r.map nk
   rw[Cr (by simpa using h)]
def sX:List Nm→List Addr→Nm→Addr
 | x::r,d::t,n=>if x=n then d else sX r t n
 | _,_,_=>0
theorem JK:∀{ns:List Nm} {ds:List Addr} {n:Nm},ns.length=ds.length→n∈ns→iL (zk ns ds) (nk n)=some (.ref (sX ns ds n))
 | [],_,_,_,hn=>by cases hn
 | _::_,[],_,h,_=>by simp at h
 | x::r,y::t,n,h,hn=>by
   show iL ((nk x,V.ref y)::zk r t) (nk n)=some (.ref (if x=n then y else sX r t n))
   by_cases e:x=n
   · subst e
     rw[je rfl,aap rfl]
   · have hr:n∈r:=(XU.mp hn).elim (fun z=>absurd z.symm e) id
     rw[i_ (fun z=>e (oS z)),JK (by simpa using h) hr,aak e]
theorem Cs:∀{ns:List Nm} {ds:List Addr} {n:Nm},ns.length=ds.length→n∈ns→sX ns ds n∈ds
 | [],_,_,_,hn=>by cases hn
 | _::_,[],_,h,_=>by simp at h
 | x::r,y::t,n,h,hn=>by
   show(if x=n then y else sX r t n)∈y::t
   by_cases e:x=n
   · rw[aap e];exact aan
   · rw[aak e]
     exact aag _ (Cs (by simpa using h) ((XU.mp hn).elim (fun z=>absurd z.symm e) id))
theorem JL:∀{ns:List Nm} {ds:List Addr} {n m:Nm},ns.length=ds.length→ds.Nodup→n∈ns→m∈ns→sX ns ds n=sX ns ds m→n=m
 | [],_,_,_,_,_,hn,_,_=>by cases hn
 | _::_,[],_,_,h,_,_,_,_=>by simp at h
 | x::r,y::t,n,m,h,nd,hn,hm,e=>by
   have hl:r.length=t.length:=by simpa using h
   rw[aaQ] at nd
   have e:(if x=n then y else sX r t n)=(if x=m then y else sX r t m):=e
   by_cases e1:x=n
   · by_cases e2:x=m
     · exact e1.symm.trans e2
     · rw[aap e1,aak e2] at e
       exact absurd (e▸Cs hl ((XU.mp hm).elim (fun z=>absurd z.symm e2) id)) nd.1
   · have MA:=(XU.mp hn).elim (fun z=>absurd z.symm e1) id
     by_cases e2:x=m
     · rw[aak e1,aap e2] at e
       exact absurd (e▸Cs hl MA) nd.1
     · rw[aak e1,aak e2] at e
       exact JL hl nd.2 MA ((XU.mp hm).elim (fun z=>absurd z.symm e2) id) e
structure UY(H:Hp)(p:Addr)(ns:List Nm)(ad:Nm→Addr)(sf:Nm→List Nm):Prop where
 at_:∃kvs,H p=some (.dT kvs)∧(∀n∈ns,iL kvs (nk n)=some (.ref (ad n)))∧kvs.map (·.1)=ns.map nk
 inj:∀n∈ns,∀m∈ns,ad n=ad m→n=m
 ks:∀n∈ns,AN H (ad n) (sf n)
theorem LA{ls:List Ln}{l:Ln}{m n:Nm}:Sa (ls++[l]) m n↔Sa ls m n∨(l.nm=n∧l.up=some m)∨(l.nm=m∧l.lo=some n):=by
 unfold Sa
 constructor
 · rintro⟨x,hx,q⟩
   rcases aaa.mp hx with h|h
   · exact .inl ⟨x,h,q⟩
   · rw[UP.mp h] at q;exact .inr q
 · rintro(⟨x,hx,q⟩|q)
   · exact⟨x,aal _ hx,q⟩
   · exact⟨l,by simp,q⟩
section
variable{P:Program}{w:World}{K:PySem.W.Frag}{mg:Str→Option Value}{base:Heap}{A:Ad}
def QG(A:Ad):Sp:=fun vs H Q _=>∃(a:Addr)(ls:List Ln),vs=[.ref a]∧qj A H a ls∧wC ls.length∧(ls.map (·.nm)).Nodup∧pX ls∧
 ∀p H' ad sf,gb H H'→H p=none→(∀n∈ls.map (·.nm),H (ad n)=none)→UY H' p (ls.map (·.nm)) ad sf→(∀n,(sf n).Nodup∧∀m,m∈sf n↔Sa ls m n)→Q (.ref p) H'
theorem vz(T:Txt mg)(O:Ok K mg A):ie P w K mg base lZ 1 A.pw A.pz ["lines"] (QG A):=by
 refine O.rP.f.ok kr (fun vs H Q E h=>?_) (fun jd A0 outer s H vs Q E hr h=>?_)
 · obtain⟨a,ls,rfl,_⟩:=h
   rfl
 · obtain⟨a,ls,rfl,⟨as,ha,pa⟩,jK,nd,cl,q⟩:=h
   have hlen:=Paired.length pa
   refine⟨_,(c_ (gw (i:=1) kr.nd rfl (Or.inl rfl) mr)
     (c_ (iO PassesOwn.never rfl (iz (pv 0)) (gA (i:=2) kr.nd rfl (Or.inl rfl)) (e_ (ju (by exact ic hr) (pv 1) (gz (pv 2) rfl) mr rfl)))
     (c_ (iO PassesOwn.never rfl (iz (pv 0)) (gA (i:=2) kr.nd rfl (Or.inl rfl)) (c_ (qZ (iw (jq (sE (gz (pv 2) rfl))) (e_ (ju (by exact ic hr) (iU (by exact ic hr) (pv 1) (gz (pv 2) rfl) (fun _ _=>rfl)) (gz (pv 2) rfl) qR rfl)) hG))
     (e_ (iw (jq (sE (gz (pv 2) rfl))) (e_ (ju (by exact ic hr) (iU (by exact ic hr) (pv 1) (gz (pv 2) rfl) (fun _ _=>rfl)) (gz (pv 2) rfl) qR rfl)) hG))))
     (e_ (gG (pv 1)))))),?_⟩
   intro p hp
   have s1:gb H (upd H p (.dT [])):=(gb.refl H).new hp
   refine⟨_,rfl,a,rfl,⟨_,hV.of (s1 a _ ha)⟩,jr (K:=K) (a:=a) (xs:=as.map V.ref) (fun i σ H2=>∃(v:Option V)(ds:List Addr),σ=[some (.ref a),some (.ref p),v]∧gb H H2∧H2 p=some (.dT (zk ((ls.take i).map (·.nm)) ds))∧ds.length=((ls.take i).map (·.nm)).length∧ds.Nodup∧(∀d∈ds,H d=none∧d≠p∧H2 d=some (.dT [])))
     ⟨none,[],rfl,s1,b_,rfl,aa6,fun d hd=>by cases hd⟩ (fun i σ H2 _ ⟨_,_,_,s3,_⟩=>hV.of (s3 a _ ha)) ?_ ?_⟩
   · rintro i v σ H2 hx ⟨v0,ds,rfl,s3,h1,h2,h3,h4⟩
     obtain⟨b,hb,rfl⟩:=j7 hx
     obtain⟨l,hl,dx,vn,vu,vl,g1,⟨t,rfl,g2⟩,g3,g4⟩:=iy pa hb
     have hi:i<ls.length:=(RL.mp hl).1
     intro d hd
     have s4:gb H (upd H2 d (.dT [])):=s3.new hd
     have VS:d≠p:=fun z=>by rw[z,h1] at hd;cases hd
     have KG:d∉ds:=fun z=>by rw[(h4 d z).2.2] at hd;cases hd
     have LY:upd H2 d (.dT []) p=some (.dT (zk ((ls.take i).map (·.nm)) ds)):=by rw[de VS.symm];exact h1
     have Aa:l.nm∉(ls.take i).map (·.nm):=fun z=>by
       have e2:(ls.map (·.nm)).take i=(ls.take i).map (·.nm):=List.map_take.symm
       rw[←e2] at z
       obtain⟨j,hj,e⟩:=aaI.mp z |>.imp fun j h=>(⟨(RL.mp h).1,h⟩:j<((ls.map (·.nm)).take i).length∧((ls.map (·.nm)).take i)[j]?=some l.nm)
       have Ic:j<i:=by rw[aau] at hj;omega
       rw[abm,aap Ic] at e
       have e3:(ls.map (·.nm))[i]?=some l.nm:=by rw[aah,hl];rfl
       have:=(abu (RL.mp e).1 nd).mp (e.trans e3.symm)
       omega
     refine⟨_,rfl,_,rfl,b,A.gH,dx,_,_,rfl,s4 _ _ g1,O.iK,O.gE,iW,p,_,rfl,mY.t (k:=nk l.nm) LY (s4 _ _ g2) ?_,?_⟩
     · have:(zk ((ls.take i).map (·.nm)) ds).length≤ds.length:=by unfold zk;rw[List.length_zipWith];exact Nat.min_le_right _ _
       rw[h2,RF,aau] at this
       exact aa9 (m:=4000) (by have:wC ls.length:=jK;unfold wC at this;omega) (by decide)
     · have e:putK (zk ((ls.take i).map (·.nm)) ds) (nk l.nm) (V.ref d)=zk ((ls.take (i+1)).map (·.nm)) (ds++[d]):=by
         rw[take_snoc hl,aam]
         show _=zk (_++[l.nm]) _
         rw[Gy _ _ h2.symm]
         refine DB _ ?_
         exact Ei (by rw[Cr h2.symm];exact fun z=>Aa (r_.mp z))
       rw[e]
       refine⟨_,ds++[d],rfl,s4.upd hp,b_,?_,?_,?_⟩
       · rw[take_snoc hl,aam,VO,VO,h2];rfl
       · rw[aaU]
         exact⟨h3,by simp,fun x hx y hy z=>KG (by rw[UP.mp hy] at z;exact z▸hx)⟩
       · intro x hx
         rcases aaa.mp hx with hx|hx
         · obtain⟨k1,k2,k3⟩:=h4 x hx
           refine⟨k1,k2,?_⟩
           rw[de k2,de (fun z=>by rw[z] at hx;exact KG hx)]
           exact k3
         · rw[UP.mp hx]
           exact⟨s3.free hd,VS,by rw[de VS];exact b_⟩
   · rintro σ H2 ⟨v0,ds,rfl,s3,h1,h2,h3,h4⟩
     have el:(as.map V.ref).length=ls.length:=by rw[RF];exact hlen
     rw[el,aaj] at h1 h2
     have Tt:=h2.symm
     have CL:∀n∈ls.map (·.nm),iL (zk (ls.map (·.nm)) ds) (nk n)=some (.ref (sX (ls.map (·.nm)) ds n)):=fun n hn=>JK Tt hn
     have L8:∀n∈ls.map (·.nm),∀m∈ls.map (·.nm),sX (ls.map (·.nm)) ds n=sX (ls.map (·.nm)) ds m→n=m:=fun n hn m hm e=>JL Tt h3 hn hm e
     have tN:∀n∈ls.map (·.nm),H (sX (ls.map (·.nm)) ds n)=none∧sX (ls.map (·.nm)) ds n≠p∧H2 (sX (ls.map (·.nm)) ds n)=some (.dT []):=fun n hn=>h4 _ (Cs Tt hn)
     generalize sX (ls.map (·.nm)) ds=ad at CL L8 tN
     have MJ:=Cr Tt
     generalize zk (ls.map (·.nm)) ds=kvs at h1 CL MJ
     refine⟨_,rfl,a,rfl,⟨_,hV.of (s3 a _ ha)⟩,jr (K:=K) (a:=a) (xs:=as.map V.ref) (fun i σ H3=>∃(v:Option V)(sf:Nm→List Nm),σ=[some (.ref a),some (.ref p),v]∧gb H H3∧H3 p=some (.dT kvs)∧(∀n∈ls.map (·.nm),AN H3 (ad n) (sf n))∧∀n,(sf n).Nodup∧(sf n).length≤2*i∧∀m,m∈sf n↔Sa (ls.take i) m n)
       ⟨v0,fun _=>[],rfl,s3,h1,fun n hn=>⟨[],(tN n hn).2.2,rfl⟩,fun n=>⟨aa6,aaD _,fun m=>⟨(fun z=>by cases z),fun⟨x,hx,_⟩=>by rw[abj] at hx;cases hx⟩⟩⟩ (fun i σ H2 _ ⟨_,_,_,s3,_⟩=>hV.of (s3 a _ ha)) ?_ ?_⟩
     · rintro i v σ H3 hx ⟨v1,sf,rfl,s4,k1,k2,k3⟩
       obtain⟨b,hb,rfl⟩:=j7 hx
       obtain⟨l,hl,dx,vn,vu,vl,g1,⟨t,rfl,g2⟩,g3,g4⟩:=iy pa hb
       have hi:i<ls.length:=(RL.mp hl).1
       have hi4:i<4000:=aaw hi jK
       have yk:l.nm∈ls.map (·.nm):=aab (VI hl)
       have step:∀{H3:Hp} {sf:Nm→List Nm} {n m:Nm},gb H H3→H3 p=some (.dT kvs)→(∀n∈ls.map (·.nm),AN H3 (ad n) (sf n))→n∈ls.map (·.nm)→∀dk,H3 (ad n)=some (.dT dk)→dk.map (·.1)=(sf n).map nk→
           gb H (upd H3 (ad n) (.dT (putK dk (nk m) (V.bl true))))∧upd H3 (ad n) (.dT (putK dk (nk m) (V.bl true))) p=some (.dT kvs)∧(∀x∈ls.map (·.nm),AN (upd H3 (ad n) (.dT (putK dk (nk m) (V.bl true)))) (ad x) (if x=n then nU (sf n) m else sf x)):=fun{H3 sf n m} s4 k1 k2 hn dk hdk VT=>by
         refine⟨s4.upd (tN n hn).1,by rw[de (tN n hn).2.1.symm];exact k1,fun x hx=>?_⟩
         by_cases e:x=n
         · subst e
           rw[aap rfl]
           exact⟨_,b_,vy VT m _⟩
         · rw[aak e]
           obtain⟨OR,e1,e2⟩:=k2 x hx
           exact⟨OR,by rw[de (fun z=>e (L8 x hx n hn z))];exact e1,e2⟩
       have Tu:∀m n,Sa (ls.take (i+1)) m n↔Sa (ls.take i) m n∨(l.nm=n∧l.up=some m)∨(l.nm=m∧l.lo=some n):=fun m n=>by rw[take_snoc hl];exact LA
       refine⟨fun σ H4=>∃sf:Nm→List Nm,σ=[some (.ref a),some (.ref p),some (.ref b)]∧gb H H4∧H4 p=some (.dT kvs)∧(∀n∈ls.map (·.nm),AN H4 (ad n) (sf n))∧∀n,(sf n).Nodup∧(sf n).length≤2*i+1∧∀m,m∈sf n↔Sa (ls.take i) m n∨(l.nm=n∧l.up=some m),?_,?_⟩
       · refine⟨_,rfl,b,A.gH,dx,_,_,rfl,s4 _ _ g1,O.iK,O.iE,Fw,_,rfl,?_⟩
         cases hu:l.up with
         | none=>
           rw[hu] at g3
           rw[show vu=V.jv from g3]
           exact⟨sf,rfl,s4,k1,k2,fun n=>⟨(k3 n).1,by have:=(k3 n).2.1;omega,fun m=>by rw[(k3 n).2.2 m];exact⟨.inl,fun z=>z.elim id fun z=>by cases z.2⟩⟩⟩
         | some u=>
           rw[hu] at g3
           obtain⟨tu,rfl,gu⟩:=(show lr H vu u from g3)
           obtain⟨dk,e1,e2⟩:=k2 l.nm yk
           have hdl:dk.length=(sf l.nm).length:=by have:=congrArg List.length e2;rwa [RF,RF] at this
           refine⟨_,rfl,_,rfl,b,A.gH,dx,_,_,rfl,s4 _ _ g1,O.iK,O.gE,iW,p,.ref (ad l.nm),rfl,?_,_,rfl,b,A.gH,dx,_,_,rfl,s4 _ _ g1,O.iK,O.iE,Fw,ad l.nm,_,rfl,mY.t (k:=nk u) e1 (s4 _ _ gu) (aa9 (m:=8000) (by have:=(k3 l.nm).2.1;omega) (by decide)),?_⟩
           · have:=i3.t (k:=nk l.nm) k1 (s4 _ _ g2)
             rw[CL _ yk] at this
             exact this
           · obtain⟨z1,z2,z3⟩:=step (m:=u) s4 k1 k2 yk dk e1 e2
             refine⟨fun x=>if x=l.nm then nU (sf l.nm) u else sf x,rfl,z1,z2,z3,fun n=>?_⟩
             obtain⟨y1,y2,y3⟩:=k3 n
             show(if n=l.nm then nU (sf l.nm) u else sf n).Nodup∧(if n=l.nm then nU (sf l.nm) u else sf n).length≤_∧∀m,m∈(if n=l.nm then nU (sf l.nm) u else sf n)↔_
             by_cases e:n=l.nm
             · subst e
               rw[aap rfl]
               have:=Ej (l:=sf l.nm) (m:=u)
               refine⟨yz y1,by omega,fun m=>?_⟩
               rw[sd,y3 m]
               exact⟨fun z=>z.elim .inl fun z=>.inr ⟨rfl,by rw[z]⟩,fun z=>z.elim .inl fun z=>.inr (aat z.2).symm⟩
             · rw[aak e]
               refine⟨y1,by omega,fun m=>?_⟩
               rw[y3 m]
               exact⟨.inl,fun z=>z.elim id fun z=>absurd z.1.symm e⟩
       · rintro σ H4 ⟨GW,rfl,s5,k4,k5,k6⟩
         have fin:∀(OS:Nm→List Nm)(n:Nm),((OS n).Nodup∧(OS n).length≤2*i+2∧∀m,m∈OS n↔(Sa (ls.take i) m n∨(l.nm=n∧l.up=some m))∨(l.nm=m∧l.lo=some n))→(OS n).Nodup∧(OS n).length≤2*(i+1)∧∀m,m∈OS n↔Sa (ls.take (i+1)) m n:=fun OS n ⟨z1,z2,z3⟩=>
           ⟨z1,by omega,fun m=>by rw[z3 m,Tu m n,or_assoc]⟩
         refine⟨_,rfl,b,A.gH,dx,_,_,rfl,s5 _ _ g1,O.iK,O.iF,Fx,_,rfl,?_⟩
         cases hu:l.lo with
         | none=>
           rw[hu] at g4
           rw[show vl=V.jv from g4]
           refine⟨_,GW,rfl,s5,k4,k5,fun n=>fin GW n ⟨(k6 n).1,by have:=(k6 n).2.1;omega,fun m=>?_⟩⟩
           rw[(k6 n).2.2 m,hu]
           exact⟨.inl,fun z=>z.elim id fun z=>by cases z.2⟩
         | some d=>
           have KG:d∈ls.map (·.nm):=(cl l (VI hl)).2 d hu
           rw[hu] at g4
           obtain⟨td,rfl,gd⟩:=(show lr H vl d from g4)
           obtain⟨dk,e1,e2⟩:=k5 d KG
           have hdl:dk.length=(GW d).length:=by have:=congrArg List.length e2;rwa [RF,RF] at this
           refine⟨_,rfl,_,rfl,b,A.gH,dx,_,_,rfl,s5 _ _ g1,O.iK,O.iF,Fx,p,.ref (ad d),rfl,?_,_,rfl,b,A.gH,dx,_,_,rfl,s5 _ _ g1,O.iK,O.gE,iW,ad d,_,rfl,mY.t (k:=nk l.nm) e1 (s5 _ _ g2) (aa9 (m:=8001) (by have:=(k6 d).2.1;omega) (by decide)),?_⟩
           · have:=i3.t (k:=nk d) k4 (s5 _ _ gd)
             rw[CL _ KG] at this
             exact this
           · obtain⟨z1,z2,z3⟩:=step (m:=l.nm) s5 k4 k5 KG dk e1 e2
             refine⟨_,fun x=>if x=d then nU (GW d) l.nm else GW x,rfl,z1,z2,z3,fun n=>fin (fun x=>if x=d then nU (GW d) l.nm else GW x) n ?_⟩
             obtain⟨y1,y2,y3⟩:=k6 n
             show(if n=d then nU (GW d) l.nm else GW n).Nodup∧(if n=d then nU (GW d) l.nm else GW n).length≤_∧∀m,m∈(if n=d then nU (GW d) l.nm else GW n)↔_
             by_cases e:n=d
             · subst e
               rw[aap rfl]
               have:=Ej (l:=GW n) (m:=l.nm)
               refine⟨yz y1,by omega,fun m=>?_⟩
               rw[sd,y3 m,hu]
               exact⟨fun z=>z.elim .inl fun z=>.inr ⟨z.symm,rfl⟩,fun z=>z.elim .inl fun z=>.inr z.1.symm⟩
             · rw[aak e]
               refine⟨y1,by omega,fun m=>?_⟩
               rw[y3 m,hu]
               exact⟨.inl,fun z=>z.elim id fun z=>absurd (aat z.2).symm e⟩
     · rintro σ H3 ⟨v1,sf,rfl,s4,k1,k2,k3⟩
       rw[RF,hlen] at k3
       exact⟨_,rfl,q p _ ad sf s4 hp (fun n hn=>(tN n hn).1) ⟨⟨kvs,k1,CL,MJ⟩,L8,k2⟩ fun n=>⟨(k3 n).1,fun m=>by rw[(k3 n).2.2 m,aaj]⟩⟩
end
theorem lr.upd{H:Hp}{v:V}{n:Nm}{x:Addr}{o o':HO}(h:lr H v n)(hx:H x=some o')(ht:∀xs,o'≠.tup xs):lr (L2.upd H x o) v n:=by
 obtain⟨t,e,VJ⟩:=h
 exact⟨t,e,by rw[de (i0 VJ hx (fun z=>ht _ z.symm))];exact VJ⟩
theorem se{dk:List (List Key×V)}{l:List Nm}(h:dk.map (·.1)=l.map nk):dk.length=l.length:=by
 have:=congrArg List.length h
 rwa [RF,RF] at this
theorem Ek{dk:List (List Key×V)}{l:List Nm}(h:dk.map (·.1)=l.map nk){i:Nat}{k:List Key}{v:V}(hi:dk[i]?=some (k,v)):∃n,l[i]?=some n∧k=nk n:=by
 have h1:(dk.map (·.1))[i]?=some k:=by rw[aah,hi];rfl
 rw[h,aah] at h1
 obtain⟨n,e,e2⟩:=aaA.mp h1
 exact⟨n,e,e2.symm⟩
theorem keys_has{dk:List (List Key×V)}{l:List Nm}(h:dk.map (·.1)=l.map nk)(n:Nm):(iL dk (nk n)).isSome=decide (n∈l):=by
 by_cases m:n∈l
 · rw[UW m];exact sP.mpr (by rw[h];exact r_.mpr m)
 · rw[XX m,abc];exact fun z=>m (r_.mp (by rw[←h];exact sP.mp z))
theorem El:∀(more:List (List Key×V))(dk:List (List Key×V))(l r:List Nm),dk.map (·.1)=l.map nk→more.map (·.1)=r.map nk→l.Nodup→∃l':List Nm,(putAll dk more).map (·.1)=l'.map nk∧l'.Nodup∧∀m,m∈l'↔m∈l∨m∈r
 | [],dk,l,r,h1,h2,nd=>by
   have:r=[]:=by cases r with|nil=>rfl|cons _ _=>cases h2
   subst this
   exact⟨l,h1,nd,fun m=>by simp⟩
 | p::t,dk,l,r,h1,h2,nd=>by
   cases r with
   | nil=>cases h2
   | cons x r=>
     rw[aao,aao] at h2
     injection h2 with e1 e2
     rw[q8,e1]
     obtain⟨l',z1,z2,z3⟩:=El t (putK dk (nk x) p.2) (nU l x) r (vy h1 x _) e2 (yz nd)
     refine⟨l',z1,z2,fun m=>?_⟩
     rw[z3 m,sd,XU,or_assoc]
section
variable{P:Program}{w:World}{K:PySem.W.Frag}{mg:Str→Option Value}{base:Heap}{A:Ad}
def NW:Sp:=fun vs H Q _=>∃(d a:Addr)(xs:List Nm)(ka:List (List Key×V))(af:Nm→List Nm),vs=[.ref d,.ref a]∧AN H d xs∧d≠a∧H a=some (.dT ka)∧(∀x∈xs,∃b,iL ka (nk x)=some (.ref b)∧b≠d∧AN H b (af x))∧xs.length≤4000∧(∀x∈xs,(af x).length≤4000)∧
 ∀p H' rs,gb H H'→H p=none→AN H' p rs→rs.Nodup→(∀m,m∈rs↔∃x∈xs,m=x∨m∈af x)→Q (.ref p) H'
theorem HE(T:Txt mg)(O:Ok K mg A):ie P w K mg base lZ 1 A.Ea A.Eb ["names","ahead"] NW:=by
 refine O.joined.f.ok wb (fun vs H Q E h=>?_) (fun jd A0 outer s H vs Q E hr h=>?_)
 · obtain⟨d,a,xs,ka,af,rfl,_⟩:=h
   rfl
 · obtain⟨d,a,xs,ka,af,rfl,⟨kd,hd,hk⟩,hda,ha,hb,hx4,haf,q⟩:=h
   refine⟨_,(c_ (gw (i:=2) wb.nd rfl (Or.inl rfl) mr)
     (c_ (yt (iO PassesOwn.never rfl (y9 (pv 0)) (gA (i:=3) wb.nd rfl (Or.inl rfl)) (c_ (ju (by exact ic hr) (pv 2) (pv 3) qR rfl)
     (e_ (hZ (Js (by exact ic hr) (pv 2) (iU (by exact ic hr) (pv 1) (pv 3) (fun _ _=>rfl)) ⟨rfl,rfl,rfl,rfl⟩))))))
     (e_ (gG (pv 2))))),?_⟩
   intro p hp
   have RO:p≠d:=(gg hd hp).symm
   have RP:p≠a:=(gg ha hp).symm
   refine⟨_,rfl,d,kd,rfl,by rw[de RO.symm];exact hd,fun o uz=>?_⟩
   have KH:=se hk
   refine Bk (d:=d) (o:=o) (kvs:=kd) (fun i σ H2=>∃(v:Option V)(kf:List (List Key×V))(rs:List Nm),σ=[some (.ref d),some (.ref a),some (.ref p),v]∧(∀b o,H b=some o→b≠d→H2 b=some o)∧H2 d=some (.nQ o (.dT kd))∧H2 p=some (.dT kf)∧kf.map (·.1)=rs.map nk∧rs.Nodup∧kf.length≤i*4001∧∀m,m∈rs↔∃x∈xs.take i,m=x∨m∈af x)
     ⟨none,[],[],rfl,fun b o e nb=>by rw[de nb,de (gg e hp)];exact e,b_,by rw[de RO];exact b_,rfl,aa6,by simp,fun m=>by simp⟩ (fun i σ H2 ⟨_,_,_,_,_,e,_⟩=>e) ?_ ?_
   · rintro i k v t σ H2 hi ht ⟨v0,kf,rs,rfl,h1,h2,h3,h4,h5,h6,h7⟩
     obtain⟨x,hx,rfl⟩:=Ek hk hi
     have YF:x∈xs:=VI hx
     have AY:i<xs.length:=(RL.mp hx).1
     obtain⟨b,e1,e2,kb,e3,e4⟩:=hb x YF
     have YG:b≠p:=gg e3 hp
     have MF:=se e4
     have hb4:=haf x YF
     have Vz:t≠p:=fun z=>by rw[z,h3] at ht;cases ht
     have hl:=jn kf (nk x) (V.bl true)
     have sz:sizeLine=16777216:=aav
     have hmul:i*4001≤4000*4001:=Nat.mul_le_mul_right _ (by omega)
     refine⟨_,rfl,_,rfl,p,_,rfl,mY.t (k:=nk x) h3 ht (by omega),?_⟩
     have tO:putK kf (nk x) (V.bl true)≠[]:=fun z=>by
       have:=vy h4 x (V.bl true)
       rw[z] at this
       have hm:x∈nU rs x:=sd.mpr (.inr rfl)
       cases hq:nU rs x with
       | nil=>rw[hq] at hm;cases hm
       | cons _ _=>rw[hq] at this;cases this
     refine⟨_,rfl,p,rfl,.inr ⟨_,.inl b_⟩,_,rfl,_,rfl,a,.ref b,rfl,?_,b,_,kb,rfl,b_,.inl (by rw[de YG];exact h1 _ _ e3 e2),YG.symm,tO,by omega,?_⟩
     · have:=i3.t (H:=L2.upd H2 p (.dT (putK kf (nk x) (V.bl true)))) (k:=nk x) (by rw[de RP.symm];exact h1 a _ ha hda.symm) (b:=t) (by rw[de Vz];exact ht)
       rw[e1] at this
       exact this
     · obtain⟨l',z1,z2,z3⟩:=El kb _ (nU rs x) (af x) (vy h4 x (V.bl true)) e4 (yz h5)
       refine⟨_,_,l',rfl,fun b o e nb=>?_,?_,b_,z1,z2,?_,fun m=>?_⟩
       · rw[de (gg e hp),de (gg e hp)];exact h1 b o e nb
       · rw[de RO.symm,de RO.symm];exact h2
       · have:=pU kb (putK kf (nk x) (V.bl true))
         have:(i+1)*4001=i*4001+4001:=Nat.succ_mul _ _
         omega
       · rw[z3 m,sd,h7 m,take_snoc hx]
         constructor
         · rintro((⟨y,hy,z⟩|z)|z)
           · exact⟨y,aal _ hy,z⟩
           · exact⟨x,by simp,.inl z⟩
           · exact⟨x,by simp,.inr z⟩
         · rintro⟨y,hy,z⟩
           rcases aaa.mp hy with hy|hy
           · exact .inl (.inl ⟨y,hy,z⟩)
           · rw[UP.mp hy] at z
             exact z.elim (fun z=>.inl (.inr z)) .inr
   · rintro σ H2 ⟨v0,kf,rs,rfl,h1,h2,h3,h4,h5,h6,h7⟩
     rw[KH,aaj] at h7
     refine⟨d,o,_,h2,uz,_,rfl,q p _ rs (fun b u e=>?_) hp ⟨kf,by rw[de RO];exact h3,h4⟩ h5 h7⟩
     by_cases VU:b=d
     · subst VU;rw[b_];rw[hd] at e;exact e
     · rw[de VU];exact h1 b u e VU
end
structure oT(ls:List Ln)(H1 H:Hp)(h:Addr)(S:List Nm)(af:Nm→List Nm):Prop where
 ex:∃kvs,H h=some (.dT kvs)∧kvs.map (·.1)=S.map nk∧∀n∈S,∃b,iL kvs (nk n)=some (.ref b)∧b≠h∧H1 b=none∧AN H b (af n)
 nd:S.Nodup
 good:∀n∈S,n∈ls.map (·.nm)∧(af n).Nodup∧∀m,m∈af n↔Ah ls m n
theorem oT.same{ls:List Ln}{H1 H H':Hp}{h:Addr}{S:List Nm}{af:Nm→List Nm}(x:oT ls H1 H h S af)(s:gb H H'):oT ls H1 H' h S af:=by
 obtain⟨⟨kvs,e1,e2,e3⟩,nd,g⟩:=x
 refine⟨⟨kvs,s _ _ e1,e2,fun n hn=>?_⟩,nd,g⟩
 obtain⟨b,z1,z2,z3,dk,z4,z5⟩:=e3 n hn
 exact⟨b,z1,z2,z3,dk,s _ _ z4,z5⟩
theorem oT.lst{ls:List Ln}{H1 H:Hp}{h c:Addr}{S:List Nm}{af:Nm→List Nm}{xs:List V}{o:HO}(x:oT ls H1 H h S af)(hc:H c=some (.lst xs)):oT ls H1 (L2.upd H c o) h S af:=by
 obtain⟨⟨kvs,e1,e2,e3⟩,nd,g⟩:=x
 refine⟨⟨kvs,by rw[de (i0 e1 hc (fun z=>by cases z))];exact e1,e2,fun n hn=>?_⟩,nd,g⟩
 obtain⟨b,z1,z2,z3,dk,z4,z5⟩:=e3 n hn
 exact⟨b,z1,z2,z3,dk,by rw[de (i0 z4 hc (fun z=>by cases z))];exact z4,z5⟩
theorem Gz{sf:Nm→List Nm}{B n:Nat}{st S:List Nm}(r:Run sf B n st S):st.length≤B:=by
 cases r with
 | nil=>exact aaD _
 | skip _ h _=>exact h
 | fin _ _ h _=>exact h
 | push _ _ h _=>exact h
theorem Em{α β:Type}{F:α→β→Prop}{vs:List α}{xs:List β}{x:β}(p:Paired F vs (xs++[x])):∃Tv v,vs=Tv++[v]∧Paired F Tv xs∧F v x:=by
 induction xs generalizing vs with
 | nil=>
   cases p with
   | cons f t=>cases t;exact⟨[],_,rfl,.nil,f⟩
 | cons y r ih=>
   cases p with
   | cons f t=>
     obtain⟨Tv,v,rfl,h1,h2⟩:=ih t
     exact⟨_::Tv,v,rfl,.cons f h1,h2⟩
def Ct(H:Hp)(p:Addr)(ls:List Ln):Prop:=∃kvs,H p=some (.dT kvs)∧∀n∈ls.map (·.nm),∃b dk,iL kvs (nk n)=some (.ref b)∧H b=some (.dT dk)∧∀m,(iL dk (nk m)).isSome=true↔Ah ls m n
theorem Ct.same{H H':Hp}{p:Addr}{ls:List Ln}(x:Ct H p ls)(s:gb H H'):Ct H' p ls:=by
 obtain⟨kvs,e1,e2⟩:=x
 refine⟨kvs,s _ _ e1,fun n hn=>?_⟩
 obtain⟨b,dk,z1,z2,z3⟩:=e2 n hn
 exact⟨b,dk,z1,s _ _ z2,z3⟩
section
variable{P:Program}{w:World}{K:PySem.W.Frag}{mg:Str→Option Value}{base:Heap}{A:Ad}
def QH(A:Ad):Sp:=fun vs H Q _=>∃(a:Addr)(ls:List Ln),vs=[.ref a]∧qj A H a ls∧wC ls.length∧(ls.map (·.nm)).Nodup∧pX ls∧Jy ls∧∀p H',gb H H'→H p=none→Ct H' p ls→Q (.ref p) H'
theorem Cu(T:Txt mg)(O:Ok K mg A):ie P w K mg base lZ 2 A.xn A.xo ["lines"] (QH A):=by
 have wJ:=vz (P:=P) (w:=w) (base:=base) T O
 have Kl:=HE (P:=P) (w:=w) (base:=base) T O
 refine O.Bo.f.ok jy (fun vs H Q E h=>?_) (fun jd A0 outer s H vs Q E hr h=>?_)
 · obtain⟨a,ls,rfl,_⟩:=h
   rfl
 · obtain⟨a,ls,rfl,la,jK,nd,cl,tp,q⟩:=h
   obtain⟨as,ha,pa⟩:=id la
   have hlen:=Paired.length pa
   have yl:ls.length≤4000:=jK
   refine⟨_,(c_ (gw (i:=1) jy.nd rfl (Or.inl rfl) (pc0 O.rP wJ hr (a_ (pv 0) d_)))
     (c_ (gw (i:=2) jy.nd rfl (Or.inr rfl) mr)
     (c_ (iO PassesOwn.never rfl (iz (pv 0)) (gA (i:=3) jy.nd rfl (Or.inl rfl)) (c_ (gw (i:=4) jy.nd rfl (Or.inl rfl) (iC (a_ (gz (pv 3) rfl) d_)))
     (e_ (Dj PassesOwn.never (uD (pv 4) (fun _=>rfl)) (c_ (gw (i:=5) jy.nd rfl (Or.inl rfl) (Ni aaG PySem.F.slot_list_pop PySem.F.type_list_pop Nk (pv 4)))
     (c_ (iw (jq (oJ (by exact ic hr) (pv 5) (pv 2))) (e_ (Di)) hG)
     (c_ (yt (BY (j:=6) xa (fU oa).names [7] jy.nd rfl rfl rfl (y9 (iU (by exact ic hr) (pv 1) (pv 5) (fun _ _=>rfl))) rfl (by decide+kernel) (fun _ _ _ _=>(gA (i:=7) jy.nd rfl (Or.inl rfl))) (fun _ _ _ _=>⟨_,pR (jq (lb (by exact ic hr) (pv 7) (pv 2))),by(try simp only [ir]);rfl⟩) (fun _ _ _ _=>⟨_,(pv 7),by(try simp only [ir]);rfl⟩)))
     (e_ (iw (uD (pv 6) (fun _=>rfl)) (c_ (hZ (qy aaG aaS aaT kF (pv 4) (a_ (pv 5) d_)))
     (e_ (hZ (qy aaG PySem.F.slot_list_extend PySem.F.type_list_extend A_ (pv 4) (a_ (pv 6) d_))))) (e_ (ju (by exact ic hr) (pv 2) (pv 5) (pc0 O.joined Kl hr (a_ (iU (by exact ic hr) (pv 1) (pv 5) (fun _ _=>rfl)) (a_ (pv 2) d_))) rfl)))))))))))
     (e_ (gG (pv 2)))))),?_⟩
   refine⟨_,rfl,a,ls,rfl,la,jK,nd,cl,fun st H1 ad sf s1 RQ had0 zZ OT=>?_⟩
   obtain⟨⟨kst,L9,RS,hst3⟩,L8,VT⟩:=zZ
   have hN:(1+ls.length*ls.length)≤16000001:=by have:=Nat.mul_le_mul yl yl;omega
   have sz:sizeLine=16777216:=aav
   have RT:∀n,(sf n).length≤4000:=fun n=>by
     have:=len_sub (ys:=ls.map (·.nm)) (OT n).1 fun y hy=>(cl.sa (((OT n).2 y).mp hy)).1
     rw[RF] at this;omega
   intro h hh
   have s2:gb H1 (L2.upd H1 h (.dT [])):=(gb.refl H1).new hh
   refine⟨_,rfl,a,rfl,⟨_,hV.of (s2 _ _ (s1 _ _ ha))⟩,jr (K:=K) (a:=a) (xs:=as.map V.ref) (fun i σ H2=>∃(v3 v4 v5 v6:Option V)(S:List Nm)(af:Nm→List Nm),σ=[some (.ref a),some (.ref st),some (.ref h),v3,v4,v5,v6,none]∧gb H1 H2∧oT ls H1 H2 h S af∧∀l∈ls.take i,l.nm∈S)
     ⟨none,none,none,none,[],fun _=>[],rfl,s2,⟨⟨[],b_,rfl,fun n hn=>by cases hn⟩,aa6,fun n hn=>by cases hn⟩,fun l hl=>by rw[abj] at hl;cases hl⟩ (fun i σ H2 _ ⟨_,_,_,_,_,_,_,s3,_⟩=>hV.of (s3 _ _ (s1 _ _ ha))) ?_ ?_⟩
   · rintro i v σ H2 hx ⟨v3,v4,v5,v6,S0,af0,rfl,s3,D0,hS0⟩
     obtain⟨b,hb,rfl⟩:=j7 hx
     obtain⟨l,hl,dx,vn,vu,vl,g1,⟨t0,rfl,g2⟩,g3,g4⟩:=iy pa hb
     have yk:l.nm∈ls.map (·.nm):=aab (VI hl)
     refine⟨_,rfl,b,A.gH,dx,_,_,rfl,s3 _ _ (s1 _ _ g1),O.iK,O.gE,iW,L2.jK,fun c hc=>?_⟩
     have RU:H1 c=none:=s3.free hc
     have s4:gb H1 (L2.upd H2 c (.lst [.ref t0])):=s3.new hc
     obtain⟨n0,r0⟩:=Jz cl tp OT l.nm S0
     refine⟨fun m σ H3=>∃(v5 v6:Option V)(sk S:List Nm)(af:Nm→List Nm)(cv:List V),σ=[some (.ref a),some (.ref st),some (.ref h),some (.ref b),some (.ref c),v5,v6,none]∧Run sf (1+ls.length*ls.length) m sk S∧gb H1 H3∧H3 c=some (.lst cv)∧Paired (lr H3) cv sk.reverse∧oT ls H1 H3 h S af∧(∀y∈sk,y∈ls.map (·.nm))∧(l.nm∈sk∨l.nm∈S)∧(∀y∈S0,y∈S),
       ⟨n0,v5,v6,[l.nm],S0,af0,[.ref t0],rfl,r0,s4,b_,.cons ⟨t0,rfl,s4 _ _ (s1 _ _ g2)⟩ .nil,D0.same ((gb.refl H2).new hc),fun y hy=>by rw[UP.mp hy];exact yk,.inl (by simp),fun _ z=>z⟩,?_⟩
     rintro m σ H3 ⟨v5,v6,sk,S,af,cv,rfl,run,s5,OU,VV,D,VW,Kh,hS⟩
     cases sk with
     | nil=>
       have:cv=[]:=by cases VV;rfl
       subst this
       refine⟨_,rfl,false,.inl ⟨_,hV.of OU,rfl⟩,k7 ?_⟩
       refine⟨_,_,_,_,S,af,rfl,s5,D,fun y hy=>?_⟩
       rw[take_snoc hl] at hy
       rcases aaa.mp hy with hy|hy
       · exact hS _ (hS0 y hy)
       · rw[UP.mp hy]
         exact Kh.elim (fun z=>by cases z) id
     | cons x sk=>
       rw[List.reverse_cons] at VV
       obtain⟨Io,vx,rfl,RV,t,rfl,ht⟩:=Em VV
       have Tw:x∈ls.map (·.nm):=VW x aan
       have RW:∀y∈sk,y∈ls.map (·.nm):=fun y hy=>VW y (aag _ hy)
       have MH:Io.length=sk.length:=by have:=Paired.length RV;rwa [aa7] at this
       refine⟨_,rfl,true,.inl ⟨_,hV.of OU,by simp⟩,mD ?_⟩
       obtain⟨n,hn,run'⟩:∃n,m=n+1∧(x∈S∧Run sf (1+ls.length*ls.length) n sk S∨x∉S∧DU sf S x=[]∧Run sf (1+ls.length*ls.length) n sk (S++[x])∨x∉S∧DU sf S x≠[]∧Run sf (1+ls.length*ls.length) n ((DU sf S x).reverse++x::sk) S):=by
         cases run with
         | skip z1 _ z2=>exact⟨_,rfl,.inl ⟨z1,z2⟩⟩
         | fin z1 z2 _ z3=>exact⟨_,rfl,.inr (.inl ⟨z1,z2,z3⟩)⟩
         | push z1 z2 _ z3=>exact⟨_,rfl,.inr (.inr ⟨z1,z2,z3⟩)⟩
       have Te:sk.length+1≤16000001:=by have:=Gz run;rw[XT] at this;omega
       subst hn
       refine⟨fun σ H4=>∃(v5 v6:Option V)(sk S:List Nm)(af:Nm→List Nm)(cv:List V),σ=[some (.ref a),some (.ref st),some (.ref h),some (.ref b),some (.ref c),v5,v6,none]∧Run sf (1+ls.length*ls.length) n sk S∧gb H1 H4∧H4 c=some (.lst cv)∧Paired (lr H4) cv sk.reverse∧oT ls H1 H4 h S af∧(∀y∈sk,y∈ls.map (·.nm))∧(l.nm∈sk∨l.nm∈S)∧(∀y∈S0,y∈S),fun σ' H' z=>⟨n,abJ n,z⟩,?_⟩
       refine⟨_,rfl,.inl ⟨rfl,_,hV.of OU⟩,c,_,.ref t,rfl,rfl,OU,by simp,?_⟩
       rw[List.dropLast_concat]
       have D4:oT ls H1 (L2.upd H3 c (.lst Io)) h S af:=D.lst OU
       have s6:gb H1 (L2.upd H3 c (.lst Io)):=s5.upd RU
       have p4:Paired (lr (L2.upd H3 c (.lst Io))) Io sk.reverse:=Paired.kx RV fun _ _ z=>z.upd OU (fun _ z=>by cases z)
       have PD:L2.upd H3 c (.lst Io) t=some (nT x):=by rw[de (i0 ht OU (fun z=>by cases z))];exact ht
       have PH:L2.upd H3 c (.lst Io) c=some (.lst Io):=b_
       generalize L2.upd H3 c (.lst Io)=H4 at D4 s6 p4 PD PH ⊢
       obtain⟨⟨kvs,e1,e2,e3⟩,VX,good⟩:=id D4
       refine⟨_,rfl,_,rfl,h,_,rfl,i3.t (k:=nk x) e1 PD,_,rfl,?_⟩
       rw[keys_has e2 x]
       rcases run' with⟨PJ,r⟩|MK
       · rw[UW PJ]
         refine mD ⟨_,_,sk,S,af,Io,rfl,r,s6,PH,p4,D4,RW,?_,hS⟩
         exact Kh.elim (fun z=>(XU.mp z).elim (fun z=>.inr (z▸PJ)) .inl) .inr
       · have PJ:x∉S:=MK.elim (·.1) (·.1)
         rw[XX PJ]
         refine k7 ?_
         obtain⟨dk,VY,hd2⟩:=VT x Tw
         have VZ:=s6 _ _ VY
         have RX:ad x≠h:=gg VY hh
         refine⟨_,rfl,_,rfl,st,.ref (ad x),rfl,?_,ad x,dk,rfl,VZ,fun o uz=>?_⟩
         · have:=i3.t (k:=nk x) (s6 _ _ L9) PD
           rw[RS x Tw] at this
           exact this
         have V0:∀{y:Addr} {u:HO},y≠ad x→H4 y=some u→L2.upd H4 (ad x) (.nQ o (.dT dk)) y=some u:=fun ny e=>by rw[de ny];exact e
         refine Jo (d:=ad x) (o:=o) (kvs:=dk) (by rw[se hd2];exact aac (RT x) (by decide)) (fun i ys σ H5=>∃(v7:Option V),σ=[some (.ref a),some (.ref st),some (.ref h),some (.ref b),some (.ref c),some (.ref t),v6,v7]∧H5=L2.upd H4 (ad x) (.nQ o (.dT dk))∧ys.length≤i∧Paired (lr (L2.upd H4 (ad x) (.nQ o (.dT dk)))) ys (((sf x).take i).filter fun y=>y∉S))
           ⟨none,rfl,rfl,UU _,.nil⟩ (fun i ys σ H5 ⟨_,_,e,e4,_⟩=>by subst e;exact⟨b_,e4⟩) ?_ ?_
         · rintro i k v tb ys σ H5 hi V1 ⟨v7,rfl,rfl,e4,e5⟩
           obtain⟨y,hy,rfl⟩:=Ek hd2 hi
           refine⟨_,rfl,_,rfl,h,_,rfl,i3.t (k:=nk y) (V0 RX.symm e1) V1,_,rfl,?_⟩
           rw[keys_has e2 y,take_snoc hy,aaF]
           by_cases hm:y∈S
           · rw[UW hm]
             refine k7 ⟨_,rfl,rfl,by omega,?_⟩
             rw[aaf (by simpa using hm),aaR,aaB]
             exact e5
           · rw[XX hm]
             refine mD ⟨_,rfl,_,rfl,rfl,MG,?_⟩
             rw[XW (by simpa using hm),aaR]
             exact il e5 ⟨tb,rfl,V1⟩
         · rintro ys σ H5 ⟨v7,rfl,rfl,e4,e5⟩ p hp
           rw[se hd2,aaj] at e5
           have RP:p≠ad x:=fun z=>by rw[z,b_] at hp;cases hp
           have RY:H4 p=none:=by rw[de RP] at hp;exact hp
           refine⟨ad x,o,_,by rw[de RP.symm];exact b_,uz,?_⟩
           rw[B0 VZ RP]
           have pm:Paired (lr H4) ys (DU sf S x):=Paired.kx e5 fun v y ⟨tb,e,z⟩=>⟨tb,e,by
             have:tb≠ad x:=fun w=>by rw[w,b_] at z;cases z
             rwa [de this] at z⟩
           have s7:gb H4 (L2.upd H4 p (.lst ys)):=(gb.refl H4).new RY
           have YH:ys.length=(DU sf S x).length:=Paired.length pm
           refine⟨_,rfl,!ys.isEmpty,.inl ⟨_,hV.of b_,rfl⟩,?_⟩
           rcases MK with⟨_,Tx,r⟩|⟨_,Tx,r⟩
           ·
             have:ys=[]:=aaE.mp (by rw[YH,Tx];rfl)
             subst this
             refine k7 ?_
             have CK:=B5.mp Tx
             refine⟨_,rfl,_,rfl,st,.ref (ad x),rfl,?_,_,rfl,ad x,h,sf x,kvs,af,rfl,⟨dk,s7 _ _ VZ,hd2⟩,RX,s7 _ _ e1,fun y hy=>?_,RT x,fun y hy=>?_,fun p2 H6 rs s8 yi Ru nd2 hm2=>?_⟩
             · have:=i3.t (k:=nk x) (s7 _ _ (s6 _ _ L9)) (s7 _ _ PD)
               rw[RS x Tw] at this
               exact this
             · obtain⟨bb,z1,z2,z3,OR,z4,z5⟩:=e3 y (CK y hy)
               exact⟨bb,z1,(gg VY z3).symm,OR,s7 _ _ z4,z5⟩
             · obtain⟨z1,z2,z3⟩:=good y (CK y hy)
               have:=len_sub (ys:=ls.map (·.nm)) z2 fun m hm=>(cl.ah ((z3 m).mp hm)).1
               rw[RF] at this;omega
             · have s9:=s7.trans s8
               have hSl:S.length≤4000:=by
                 have:=len_sub (ys:=ls.map (·.nm)) VX fun m hm=>(good m hm).1
                 rw[RF] at this;omega
               have e6:H6 h=some (.dT kvs):=s9 _ _ e1
               refine⟨_,rfl,_,rfl,h,_,rfl,mY.t (k:=nk x) e6 (s9 _ _ PD) (by rw[se e2];omega),?_⟩
               have RZ:p2≠h:=(gg (s7 _ _ e1) yi).symm
               have V2:H1 p2=none:=(s6.trans s7).free yi
               have key:putK kvs (nk x) (V.ref p2)=kvs++[(nk x,V.ref p2)]:=DB _ (Ei (by rw[e2];exact fun z=>PJ (r_.mp z)))
               have hhT:H1 h=none:=hh
               refine⟨_,_,sk,S++[x],fun y=>if y=x then rs else af y,Io,rfl,r,(s6.trans s9).upd hhT,?_,?_,⟨⟨_,b_,?_,fun y hy=>?_⟩,?_,fun y hy=>?_⟩,RW,?_,fun y hy=>aal _ (hS y hy)⟩
               · rw[de (i0 (s9 _ _ PH) e6 (fun z=>by cases z))];exact s9 _ _ PH
               · exact Paired.kx p4 fun _ _ z=>(z.same s9).upd e6 (fun _ z=>by cases z)
               · rw[key,aam,e2,aam];rfl
               · show ∃bb,iL (putK kvs (nk x) (V.ref p2)) (nk y)=some (V.ref bb)∧bb≠h∧H1 bb=none∧AN _ bb (if y=x then rs else af y)
                 rw[j8]
                 by_cases e:y=x
                 · subst e
                   rw[aap rfl,aap rfl]
                   obtain⟨OR,w1,w2⟩:=Ru
                   exact⟨p2,rfl,RZ,V2,OR,by rw[de RZ];exact w1,w2⟩
                 · rw[aak (fun z=>e (oS z)),aak e]
                   have hyS:y∈S:=(aaa.mp hy).elim id fun z=>absurd (UP.mp z) e
                   obtain⟨bb,z1,z2,z3,OR,z4,z5⟩:=e3 y hyS
                   exact⟨bb,z1,z2,z3,OR,by rw[de z2];exact s9 _ _ z4,z5⟩
               · rw[aaU]
                 exact⟨VX,by simp,fun u hu w hw z=>PJ (by rw[UP.mp hw] at z;have z:u=x:=z;exact z▸hu)⟩
               · show y∈ls.map (·.nm)∧(if y=x then rs else af y).Nodup∧∀m,m∈(if y=x then rs else af y)↔Ah ls m y
                 by_cases e:y=x
                 · subst e
                   rw[aap rfl]
                   refine⟨Tw,nd2,fun m=>?_⟩
                   rw[hm2 m,Ah.last]
                   constructor
                   · rintro⟨u,hu,z⟩
                     have Tu:=((OT y).2 u).mp hu
                     rcases z with z|z
                     · exact .inl (z▸Tu)
                     · exact .inr ⟨u,((good u (CK u hu)).2.2 m).mp z,Tu⟩
                   · rintro(z|⟨u,z1,z2⟩)
                     · exact⟨m,((OT y).2 m).mpr z,.inl rfl⟩
                     · have hu:=((OT y).2 u).mpr z2
                       exact⟨u,hu,.inr (((good u (CK u hu)).2.2 m).mpr z1)⟩
                 · rw[aak e]
                   exact good y ((aaa.mp hy).elim id fun z=>absurd (UP.mp z) e)
               · exact Kh.elim (fun z=>(XU.mp z).elim (fun z=>.inr (by rw[z];simp)) .inl) fun z=>.inr (aal _ z)
           ·
             have hys:(!ys.isEmpty)=true:=by
               cases ys with
               | nil=>exact absurd (aaE.mp YH.symm) Tx
               | cons _ _=>rfl
             refine Jg hys ?_
             have AZ:=Gz r
             rw[VO,aa7,XT] at AZ
             have Tz:=s7 _ _ PH
             refine⟨_,rfl,.inl ⟨rfl,_,hV.of Tz⟩,_,rfl,c,_,_,rfl,rfl,Tz,by omega,?_⟩
             have hpc:p≠c:=(gg PH RY).symm
             refine⟨_,rfl,.inl ⟨rfl,_,hV.of b_⟩,_,rfl,c,p,_,_,rfl,rfl,b_,by rw[de hpc];exact b_,by rw[VO];show Io.length+1+ys.length≤_;omega,?_⟩
             refine⟨_,_,(DU sf S x).reverse++x::sk,S,af,_,rfl,r,((s6.trans s7).upd RU).upd RU,b_,?_,((D4.same s7).lst Tz).lst b_,fun y hy=>?_,?_,hS⟩
             · rw[List.reverse_append,List.reverse_reverse,List.reverse_cons]
               refine Paired.kx (F:=lr (L2.upd H4 p (.lst ys))) (t_ (il (Paired.kx p4 fun _ _ z=>z.same s7) ⟨t,rfl,s7 _ _ PD⟩) (Paired.kx pm fun _ _ z=>z.same s7)) fun _ _ z=>?_
               exact(z.upd Tz (fun _ z=>by cases z)).upd b_ (fun _ z=>by cases z)
             · rcases aaa.mp hy with hy|hy
               · have hy:=(aaq.mp (List.mem_reverse.mp hy)).1
                 exact(cl.sa (((OT x).2 y).mp hy)).1
               · exact VW y hy
             · exact Kh.elim (fun z=>.inl (aaC _ z)) .inr
   · rintro σ H2 ⟨v3,v4,v5,v6,S,af,rfl,s3,⟨⟨kvs,e1,e2,e3⟩,VX,good⟩,hS⟩
     rw[RF,hlen,aaj] at hS
     refine⟨_,rfl,q h _ (s1.trans s3) (s1.free hh) ⟨kvs,e1,fun n hn=>?_⟩⟩
     obtain⟨l,hl,rfl⟩:=aaz.mp hn
     obtain⟨bb,z1,z2,z3,dk,z4,z5⟩:=e3 _ (hS l hl)
     exact⟨bb,dk,z1,z4,fun m=>by rw[sP,z5,r_];exact(good _ (hS l hl)).2.2 m⟩
end
theorem JM{κ:Type}[DecidableEq κ]:∀{kvs:List (κ×V)} {i:Nat} {k:κ} {v:V},(kvs.map (·.1)).Nodup→kvs[i]?=some (k,v)→iL kvs k=some v
 | [],_,_,_,_,h=>by simp at h
 | p::r,i,k,v,nd,h=>by
   rw[aao,aaQ] at nd
   cases i with
   | zero=>simp at h;subst h;exact je rfl
   | succ i=>
     have h:r[i]?=some (k,v):=by simpa using h
     have hm:k∈r.map (·.1):=aaz.mpr ⟨_,VI h,rfl⟩
     rw[i_ (fun z=>nd.1 (by rw[z];exact hm))]
     exact JM nd.2 h
theorem JN{κ:Type}[DecidableEq κ](kvs:List (κ×V))(k j:κ)(h:j≠k):iL (jS kvs k) j=iL kvs j:=by
 induction kvs with
 | nil=>rfl
 | cons p r ih=>
   by_cases e:p.1=k
   · rw[vP e,ih,i_ (fun z=>h (z.symm.trans e))]
   · rw[vQ e]
     by_cases e2:p.1=j
     · rw[je e2,je e2]
     · rw[i_ e2,i_ e2,ih]
theorem HF{kvs:List (List Key×V)}{rem:List Ln}{n:Nm}(h:kvs.map (·.1)=rem.map fun l=>nk l.nm):(jS kvs (nk n)).map (·.1)=(rem.filter fun o=>o.nm≠n).map fun l=>nk l.nm:=by
 induction kvs generalizing rem with
 | nil=>cases rem with|nil=>rfl|cons _ _=>cases h
 | cons p r ih=>
   cases rem with
   | nil=>cases h
   | cons x t=>
     rw[aao,aao] at h
     injection h with h1 h2
     by_cases e:x.nm=n
     · rw[vP (by rw[h1,e]),aaf (by simpa using e)]
       exact ih h2
     · rw[vQ (fun z=>e (oS (h1.symm.trans z))),XW (by simpa using e),aao,aao,ih h2,h1]
structure Wait(kw:List (List Key×V))(rem:List Ln)(f:Ln→Nat):Prop where
 keys:kw.map (·.1)=rem.map fun l=>nk l.nm
 val:∀o∈rem,iL kw (nk o.nm)=some (.int (f o:Nat))
theorem Wait.len{kw:List (List Key×V)}{rem:List Ln}{f:Ln→Nat}(w:Wait kw rem f):kw.length=rem.length:=by
 have:=congrArg List.length w.keys
 rwa [RF,RF] at this
theorem NX{rem:List Ln}:(rem.map fun l=>nk l.nm)=(rem.map (·.nm)).map nk:=by rw[List.map_map];rfl
theorem QI{xs:List Nm}(h:xs.Nodup):(xs.map nk).Nodup:=by
 induction xs with
 | nil=>exact aa6
 | cons x r ih=>
   rw[aaQ] at h
   rw[aao,aaQ]
   exact⟨fun z=>h.1 (r_.mp z),ih h.2⟩
theorem Wait.nd{kw:List (List Key×V)}{rem:List Ln}{f:Ln→Nat}(w:Wait kw rem f)(h:(rem.map (·.nm)).Nodup):(kw.map (·.1)).Nodup:=by rw[w.keys,NX];exact QI h
theorem Wait.get{kw:List (List Key×V)}{rem:List Ln}{f:Ln→Nat}(w:Wait kw rem f)(h:(rem.map (·.nm)).Nodup){i:Nat}{k:List Key}{v:V}(hi:kw[i]?=some (k,v)):∃o,rem[i]?=some o∧k=nk o.nm∧v=.int (f o:Nat):=by
 have h1:(kw.map (·.1))[i]?=some k:=by rw[aah,hi];rfl
 rw[w.keys,aah] at h1
 obtain⟨o,e,e2⟩:=aaA.mp h1
 refine⟨o,e,e2.symm,?_⟩
 have h2:=JM (w.nd h) hi
 rw[←e2,w.val o (VI e)] at h2
 exact(aat h2).symm
section
variable{P:Program}{w:World}{K:PySem.W.Frag}{mg:Str→Option Value}{base:Heap}{A:Ad}
def UZ:Sp:=fun vs H Q _=>∃(d:Addr)(kw:List (List Key×V))(rem:List Ln)(f:Ln→Nat)(l:Ln),vs=[.ref d]∧H d=some (.dT kw)∧Wait kw rem f∧(rem.map (·.nm)).Nodup∧rem.find? (fun o=>f o ==0)=some l∧∀t,H t=some (nT l.nm)→Q (.ref t) H
theorem AO(T:Txt mg)(O:Ok K mg A):ie P w K mg base lZ 1 A.uW A.uX ["waiting"] UZ:=by
 refine O.zG.f.ok tj (fun vs H Q E h=>?_) (fun jd A0 outer s H vs Q E hr h=>?_)
 · obtain⟨d,kw,rem,f,l,rfl,_⟩:=h
   rfl
 · obtain⟨d,kw,rem,f,l,rfl,hd,W,nd,hf,q⟩:=h
   refine⟨_,(c_ (yt (iO PassesOwn.never rfl (y9 (pv 0)) (gA (i:=1) tj.nd rfl (Or.inl rfl)) (e_ (iw (ib jO (iU (by exact ic hr) (pv 0) (pv 1) (fun _ _=>rfl)) f_ (ij _)) (e_ (gG (pv 1))) hG))))
     (e_ (gG tQ))),?_⟩
   refine⟨_,rfl,d,kw,rfl,hd,fun o uz=>?_⟩
   refine Bk (d:=d) (o:=o) (kvs:=kw) (fun i σ H2=>∃(v:Option V),σ=[some (.ref d),v]∧H2=L2.upd H d (.nQ o (.dT kw))∧(rem.drop i).find? (fun o=>f o ==0)=some l) ⟨none,rfl,rfl,hf⟩ (fun i σ H2 ⟨_,_,e,_⟩=>by subst e;exact b_) ?_ ?_
   · rintro i k v t σ H2 hi ht ⟨v0,rfl,rfl,h1⟩
     obtain⟨x,hx,rfl,rfl⟩:=W.get nd hi
     have lu:i<rem.length:=(RL.mp hx).1
     have hdr:rem.drop i=x::rem.drop (i+1):=by rw[aaL lu];congr 1;exact(RL.mp hx).2
     rw[hdr] at h1
     refine⟨_,rfl,_,rfl,d,_,rfl,.inr ⟨kw,nk x.nm,t,.inr ⟨o,b_⟩,rfl,ht,(W.val x (VI hx)).symm⟩,rfl,_,rfl,?_⟩
     refine jT (fun h=>?_) (fun h=>?_)
     · have h:f x=0:=by have:=V.int.inj (aar h);omega
       rw[List.find?_cons_of_pos (by simpa using h)] at h1
       cases h1
       refine⟨_,rfl,d,o,_,b_,uz,?_⟩
       rw[Bi hd]
       exact q t (by
                     have:t≠d:=fun z=>by rw[z,b_] at ht;cases ht
                     rwa [de this] at ht)
     · have h:¬f x=0:=fun z=>h (UW (by rw[z];rfl))
       rw[List.find?_cons_of_neg (by simpa using h)] at h1
       exact⟨_,rfl,rfl,h1⟩
   · rintro σ H2 ⟨v0,rfl,rfl,h1⟩
     rw[W.len,abL] at h1
     cases h1
end
section
open Classical
noncomputable def nV(lt:Nm→Nm→Prop)(rem:List Ln)(l:Ln):Nat:=(rem.filter fun o=>decide (lt o.nm l.nm)).length
theorem JO(lt:Nm→Nm→Prop)(rem:List Ln):(fun o=>nV lt rem o ==0)=free lt rem:=by
 funext o
 unfold nV free
 rw[abe,beq_iff_eq,aaE,List.filter_eq_nil_iff,decide_eq_true_iff]
 exact⟨fun h x hx=>by simpa using h x hx,fun h x hx=>by simpa using h x hx⟩
theorem JP{lt:Nm→Nm→Prop}{rem:List Ln}(nd:(rem.map (·.nm)).Nodup){l:Ln}(hl:l∈rem)(o:Ln):nV lt rem o=nV lt (rem.filter fun x=>x.nm≠l.nm) o+if lt l.nm o.nm then 1 else 0:=by
 unfold nV
 induction rem with
 | nil=>cases hl
 | cons x r ih=>
   rw[aao,aaQ] at nd
   rcases XU.mp hl with rfl|hl
   · have e:r.filter (fun x=>decide (x.nm≠l.nm))=r:=List.filter_eq_self.mpr fun y hy=>UW fun z=>nd.1 (z▸aab hy)
     rw[aaf (p:=fun x:Ln=>decide (x.nm≠l.nm)) (by simp),e]
     by_cases h:lt l.nm o.nm
     · rw[XW (by simpa using h),aap h,XT]
     · rw[aaf (by simpa using h),aak h,Nat.add_zero]
   · have hx:x.nm≠l.nm:=fun z=>nd.1 (z▸aab hl)
     rw[XW (p:=fun x:Ln=>decide (x.nm≠l.nm)) (by simpa using hx)]
     by_cases h:lt x.nm o.nm
     · rw[XW (by simpa using h),XW (by simpa using h),XT,XT,ih nd.2 hl];omega
     · rw[aaf (by simpa using h),aaf (by simpa using h),ih nd.2 hl]
end
theorem JQ{lt:Nm→Nm→Prop}{n:Nat}{rem:List Ln}{l:Ln}(h:rem.find? (free lt rem)=some l):tf lt (n+1) rem=l::tf lt n (rem.filter fun o=>o.nm≠l.nm):=by
 rw[tf,h]
section
variable{P:Program}{w:World}{K:PySem.W.Frag}{mg:Str→Option Value}{base:Heap}{A:Ad}
def QJ(A:Ad):Sp:=fun vs H Q _=>∃(a h:Addr)(ls al:List Ln),vs=[.ref a,.ref h]∧qj A H a ls∧Ct H h al∧wC ls.length∧(ls.map (·.nm)).Nodup∧(∀l∈ls,l.nm∈al.map (·.nm))∧Jy al∧
 ∀p H',gb H H'→H p=none→qj A H' p (rowOf (Ah al) ls)→Q (.ref p) H'
theorem HG(T:Txt mg)(O:Ok K mg A):ie P w K mg base lZ 2 A.Ec A.Ed ["lines","ahead"] (QJ A):=by
 have CM:=AO (P:=P) (w:=w) (base:=base) T O
 refine O.JI.f.ok lh (fun vs H Q E h=>?_) (fun jd A0 outer s H vs Q E hr h=>?_)
 · obtain⟨a,h,ls,al,rfl,_⟩:=h
   rfl
 · obtain⟨a,h,ls,al,rfl,⟨as,ha,pa⟩,⟨kh,R0,YI⟩,jK,nd,yj,tp,q⟩:=h
   have hlen:=Paired.length pa
   have yl:ls.length≤4000:=jK
   have sz:sizeLine=16777216:=aav
   have tpl:∃rk:Nm→Nat,∀m n,Ah al m n→rk m<rk n:=by obtain⟨rk,r⟩:=tp;exact⟨rk,fun m n z=>r.ah z⟩
   refine⟨_,(c_ (gw (i:=2) lh.nd rfl (Or.inl rfl) mr)
     (c_ (gw (i:=3) lh.nd rfl (Or.inl rfl) mr)
     (c_ (iO PassesOwn.never rfl (iz (pv 0)) (gA (i:=4) lh.nd rfl (Or.inr rfl)) (c_ (ju (by exact ic hr) (pv 2) (gz (pv 4) rfl) (pv 4) rfl)
     (e_ (ju (by exact ic hr) (pv 3) (gz (pv 4) rfl) (gD gr (by rfl) T.jV aas (a_ (yV DY (fU uN).names [7] rfl (iz (pv 0)) rfl (by decide+kernel) (fun _ _ _ _=>(gA (i:=7) lh.nd rfl (Or.inl rfl))) (fun _ _ _ _=>⟨_,pR (jq (oJ (by exact ic hr) (gz (pv 7) rfl) (iU (by exact ic hr) (pv 1) (gz (pv 4) rfl) (fun _ _=>rfl)))),by(try simp only [ir]);rfl⟩) (fun _ _ _ _=>⟨_,(pv 7),by(try simp only [ir]);rfl⟩)) d_)) rfl))))
     (c_ (gw (i:=5) lh.nd rfl (Or.inl rfl) (iC d_))
     (c_ (Dj PassesOwn.never (Hu (pv 3) (fun _=>rfl)) (c_ (gw (i:=6) lh.nd rfl (Or.inl rfl) (pc0 O.zG CM hr (a_ (pv 3) d_)))
     (c_ (hZ (Ju (by exact ic hr) (pv 3) (pv 6) ⟨rfl,rfl,rfl,rfl⟩))
     (c_ (hZ (qy aaG aaS aaT kF (pv 5) (a_ (iU (by exact ic hr) (pv 2) (pv 6) (fun _ _=>rfl)) d_)))
     (e_ (iO PassesOwn.never rfl (iz (sF (xZ rfl) (by rfl) T.zu abx (a_ (pv 3) d_))) (gA (i:=7) lh.nd rfl (Or.inl rfl)) (e_ (iw (jq (oJ (by exact ic hr) (pv 6) (iU (by exact ic hr) (pv 1) (pv 7) (fun _ _=>rfl)))) (e_ (ju (by exact ic hr) (pv 3) (pv 7) (gp BL (iU (by exact ic hr) (pv 3) (pv 7) (fun _ _=>rfl)) f_) rfl)) hG))))))))
     (e_ (gG (pv 5)))))))),?_⟩
   intro bn R1 wt PL
   have s1:gb H (L2.upd (L2.upd H bn (.dT [])) wt (.dT [])):=((gb.refl H).new R1).new PL
   have OV:H wt=none:=((gb.refl H).new (o:=.dT []) R1).free PL
   have R3:bn≠wt:=fun z=>by rw[z,b_] at PL;cases PL
   refine⟨_,rfl,a,rfl,⟨_,hV.of (s1 _ _ ha)⟩,jr (K:=K) (a:=a) (xs:=as.map V.ref) (fun i σ H2=>∃(v4:Option V)(kb kw:List (List Key×V)),σ=[some (.ref a),some (.ref h),some (.ref bn),some (.ref wt),v4,none,none,none]∧gb H H2∧H2 bn=some (.dT kb)∧H2 wt=some (.dT kw)∧kb.length≤i∧(∀l∈ls.take i,∃b,iL kb (nk l.nm)=some (.ref b)∧mR A H b l)∧Wait kw (ls.take i) (nV (Ah al) ls))
     ⟨none,[],[],rfl,s1,by rw[de R3];exact b_,b_,UU _,(fun l hl=>by rw[abj] at hl;cases hl),⟨rfl,(fun l hl=>by rw[abj] at hl;cases hl)⟩⟩ (fun i σ H2 _ ⟨_,_,_,_,s3,_⟩=>hV.of (s3 _ _ ha)) ?_ ?_⟩
   · rintro i v σ H2 hx ⟨v4,kb,kw,rfl,s3,h1,h2,h3,h4,W⟩
     obtain⟨b,hb,rfl⟩:=j7 hx
     obtain⟨l,hl,dx,vn,vu,vl,g1,⟨t,rfl,g2⟩,g3,g4⟩:=iy pa hb
     have TB:l∈ls:=VI hl
     have hi:i<ls.length:=(RL.mp hl).1
     have Aa:∀x∈ls.take i,x.nm≠l.nm:=fun x hx z=>by
       obtain⟨j,hj⟩:=aaI.mp hx
       have Ic:j<i:=by have:=(RL.mp hj).1;rw[aau] at this;omega
       rw[abm,aap Ic] at hj
       have e1:(ls.map (·.nm))[j]?=some l.nm:=by rw[aah,hj,←z];rfl
       have e2:(ls.map (·.nm))[i]?=some l.nm:=by rw[aah,hl];rfl
       have:=(abu (RL.mp e1).1 nd).mp (e1.trans e2.symm)
       omega
     obtain⟨bb,dk,z1,z2,z3⟩:=YI l.nm (yj l TB)
     have RI:=jn kb (nk l.nm) (V.ref b)
     refine⟨_,rfl,_,rfl,_,rfl,b,A.gH,dx,_,_,rfl,s3 _ _ g1,O.iK,O.gE,iW,bn,_,rfl,mY.t (k:=nk l.nm) h1 (s3 _ _ g2) (by omega),?_⟩
     have s4:gb H (L2.upd H2 bn (.dT (putK kb (nk l.nm) (V.ref b)))):=s3.upd R1
     have LY:L2.upd H2 bn (.dT (putK kb (nk l.nm) (V.ref b))) bn=some (.dT (putK kb (nk l.nm) (V.ref b))):=b_
     have YJ:L2.upd H2 bn (.dT (putK kb (nk l.nm) (V.ref b))) wt=some (.dT kw):=by rw[de R3.symm];exact h2
     generalize L2.upd H2 bn (.dT (putK kb (nk l.nm) (V.ref b)))=H3 at s4 LY YJ ⊢
     refine⟨_,rfl,a,rfl,⟨_,hV.of (s4 _ _ ha)⟩,j2 (K:=K) (a:=a) (xs:=as.map V.ref) (by rw[RF,hlen];omega) (fun j ys σ H4=>∃v7:Option V,σ=[some (.ref a),some (.ref h),some (.ref bn),some (.ref wt),some (.ref b),none,none,v7]∧H4=H3∧ys.length=nV (Ah al) (ls.take j) l)
       ⟨none,rfl,rfl,rfl⟩ (fun j ys σ H4 _ ⟨_,_,e,e2⟩=>by subst e;exact⟨hV.of (s4 _ _ ha),by rw[e2];unfold nV;exact aac (aaH _ _) (by rw[aau];omega)⟩) ?_ ?_⟩
     · rintro j v ys σ H4 hx ⟨v7,rfl,rfl,e2⟩
       obtain⟨b2,OW,rfl⟩:=j7 hx
       obtain⟨l2,EN,dx2,vn2,vu2,vl2,k1,⟨t2,rfl,k2⟩,k3,k4⟩:=iy pa OW
       refine⟨_,rfl,b2,A.gH,dx2,_,_,rfl,s4 _ _ k1,O.iK,O.gE,iW,_,rfl,_,rfl,b,A.gH,dx,_,_,rfl,s4 _ _ g1,O.iK,O.gE,iW,h,.ref bb,rfl,?_,bb,_,rfl,i3.t (k:=nk l2.nm) (s4 _ _ z2) (s4 _ _ k2),_,rfl,?_⟩
       · have:=i3.t (k:=nk l.nm) (s4 _ _ R0) (s4 _ _ g2)
         rw[z1] at this
         exact this
       · unfold nV at e2 ⊢
         rw[take_snoc EN,aaF,VO]
         by_cases hm:Ah al l2.nm l.nm
         · rw[(z3 l2.nm).mpr hm]
           refine mD ⟨_,rfl,_,rfl,rfl,?_⟩
           rw[XW (by simpa using hm),aaR,VO,e2];rfl
         · rw[abc.mpr fun z=>hm ((z3 l2.nm).mp z)]
           refine k7 ⟨_,rfl,rfl,?_⟩
           rw[aaf (by simpa using hm),aaR,e2];rfl
     · rintro ys σ H4 ⟨v7,rfl,rfl,e2⟩ p hp
       rw[RF,hlen,aaj] at e2
       have s5:=s4.new (o:=.lst ys) hp
       have MC:=W.len
       rw[aau] at MC
       refine⟨p,_,rfl,.inl (hV.of b_),_,rfl,_,rfl,b,A.gH,dx,_,_,rfl,s5 _ _ g1,O.iK,O.gE,iW,wt,_,rfl,mY.t (k:=nk l.nm) (ig hp YJ) (s5 _ _ g2) (by omega),?_⟩
       refine⟨_,_,_,rfl,s5.upd OV,by rw[de R3];exact ig hp LY,b_,by omega,fun x hx=>?_,⟨?_,fun x hx=>?_⟩⟩
       · rw[take_snoc hl] at hx
         rcases aaa.mp hx with hx|hx
         · obtain⟨c,c1,c2⟩:=h4 x hx
           exact⟨c,by rw[j8,aak (fun z=>Aa x hx (oS z))];exact c1,c2⟩
         · rw[UP.mp hx]
           exact⟨b,by rw[j8,aap rfl],dx,_,vu,vl,g1,⟨t,rfl,g2⟩,g3,g4⟩
       · rw[pK,W.keys,take_snoc hl,aam]
         exact aak fun z=>by
           obtain⟨x,hx,e⟩:=aaz.mp z
           exact Aa x hx (oS e)
       · rw[take_snoc hl] at hx
         rw[j8]
         rcases aaa.mp hx with hx|hx
         · rw[aak (fun z=>Aa x hx (oS z))];exact W.val x hx
         · rw[UP.mp hx,aap rfl,e2]
   · rintro σ H2 ⟨v4,kb,kw,rfl,s3,h1,h2,h3,h4,W⟩
     have el:(as.map V.ref).length=ls.length:=by rw[RF];exact hlen
     rw[el,aaj] at h4 W
     refine⟨L2.jK,fun r sx=>?_⟩
     have YK:H r=none:=s3.free sx
     have V3:bn≠r:=gg h1 sx
     have R4:wt≠r:=gg h2 sx
     obtain⟨rk,OP⟩:=tpl
     refine⟨fun m σ H3=>∃(v6 v7:Option V)(kw:List (List Key×V))(rem row:List Ln)(rs:List Addr),m=rem.length∧σ=[some (.ref a),some (.ref h),some (.ref bn),some (.ref wt),v4,some (.ref r),v6,v7]∧gb H H3∧H3 bn=some (.dT kb)∧H3 wt=some (.dT kw)∧H3 r=some (.lst (rs.map V.ref))∧Paired (mR A H) rs row∧Wait kw rem (nV (Ah al) rem)∧rem.Sublist ls∧row.length+rem.length=ls.length∧row++tf (Ah al) rem.length rem=rowOf (Ah al) ls,
       ⟨ls.length,none,none,kw,ls,[],[],rfl,rfl,s3.new sx,ig sx h1,ig sx h2,b_,.nil,W,aax _,by simp,rfl⟩,?_⟩
     rintro m σ H3 ⟨v6,v7,kw,rem,row,rs,rfl,rfl,s4,b1,w1,r1,pr,W,sub,hsum,EE⟩
     have TC:(rem.map (·.nm)).Nodup:=(sub.map _).nodup nd
     refine⟨_,rfl,wt,kw,rfl,w1,?_⟩
     have MC:=W.len
     cases rem with
     | nil=>
       have:kw=[]:=aaE.mp MC
       subst this
       refine k7 ⟨_,rfl,q r _ s4 YK ⟨rs,r1,?_⟩⟩
       rw[show tf (Ah al) ([]:List Ln).length []=[] from rfl,aaB] at EE
       rw[←EE]
       exact Paired.kx pr fun _ _ z=>z.same s4
     | cons x0 V4=>
       generalize V5:x0::V4=rem at *
       have tO:rem≠[]:=by rw[←V5];exact fun z=>by cases z
       obtain⟨l,Km⟩:=w_ (lt:=Ah al) OP rem tO
       have OX:l∈rem:=List.mem_of_find?_eq_some Km
       have V6:l∈ls:=sub.subset OX
       have ML:=pb TC OX
       refine Jg (by cases kw with|nil=>exact absurd (aaE.mp MC.symm) tO|cons _ _=>rfl) ?_
       refine⟨fun σ H4=>∃(v6 v7:Option V)(kw:List (List Key×V))(lU row:List Ln)(rs:List Addr),lU.length<rem.length∧σ=[some (.ref a),some (.ref h),some (.ref bn),some (.ref wt),v4,some (.ref r),v6,v7]∧gb H H4∧H4 bn=some (.dT kb)∧H4 wt=some (.dT kw)∧H4 r=some (.lst (rs.map V.ref))∧Paired (mR A H) rs row∧Wait kw lU (nV (Ah al) lU)∧lU.Sublist ls∧row.length+lU.length=ls.length∧row++tf (Ah al) lU.length lU=rowOf (Ah al) ls,
         fun σ' H' ⟨u6,u7,R5,lU,V7,rs2,lu,z⟩=>⟨lU.length,lu,u6,u7,R5,lU,V7,rs2,rfl,z⟩,?_⟩
       refine⟨_,rfl,wt,kw,rem,nV (Ah al) rem,l,rfl,w1,W,TC,by rw[JO];exact Km,fun t ht=>?_⟩
       have CL:=W.val l OX
       refine⟨_,rfl,wt,rfl,.inr ⟨_,.inl w1⟩,_,rfl,t,kw,nk l.nm,_,rfl,w1,ht,CL,?_⟩
       have s5:gb H (L2.upd H3 wt (.dT (jS kw (nk l.nm)))):=s4.upd OV
       have b2:L2.upd H3 wt (.dT (jS kw (nk l.nm))) bn=some (.dT kb):=by rw[de R3];exact b1
       have r2:L2.upd H3 wt (.dT (jS kw (nk l.nm))) r=some (.lst (rs.map V.ref)):=by rw[de R4.symm];exact r1
       have t2:L2.upd H3 wt (.dT (jS kw (nk l.nm))) t=some (nT l.nm):=by rw[de (i0 ht w1 (fun z=>by cases z))];exact ht
       have w2:L2.upd H3 wt (.dT (jS kw (nk l.nm))) wt=some (.dT (jS kw (nk l.nm))):=b_
       have W2:Wait (jS kw (nk l.nm)) (rem.filter fun o=>o.nm≠l.nm) (nV (Ah al) rem):=⟨HF W.keys,fun o ho=>by
         have nX:=aaq.mp ho
         rw[JN _ _ _ (fun z=>by have:=oS z;simpa[this] using nX.2)]
         exact W.val o nX.1⟩
       generalize L2.upd H3 wt (.dT (jS kw (nk l.nm)))=H4 at s5 b2 r2 t2 w2 ⊢
       generalize jS kw (nk l.nm)=R5 at w2 W2
       obtain⟨bl,MF,hLn⟩:=h4 l V6
       have V8:=Paired.length pr
       refine⟨_,rfl,.inl ⟨rfl,_,hV.of r2⟩,_,rfl,_,rfl,bn,.ref bl,rfl,?_,r,_,_,rfl,rfl,r2,by rw[RF,V8];omega,?_⟩
       · have:=i3.t (k:=nk l.nm) b2 t2
         rw[MF] at this
         exact this
       have s6:gb H (L2.upd H4 r (.lst (rs.map V.ref++[V.ref bl]))):=s5.upd YK
       have b3:L2.upd H4 r (.lst (rs.map V.ref++[V.ref bl])) bn=some (.dT kb):=by rw[de V3];exact b2
       have w3:L2.upd H4 r (.lst (rs.map V.ref++[V.ref bl])) wt=some (.dT R5):=by rw[de R4];exact w2
       have t3:L2.upd H4 r (.lst (rs.map V.ref++[V.ref bl])) t=some (nT l.nm):=by rw[de (i0 t2 r2 (fun z=>by cases z))];exact t2
       have r3:L2.upd H4 r (.lst (rs.map V.ref++[V.ref bl])) r=some (.lst ((rs++[bl]).map V.ref)):=by rw[b_,aam];rfl
       generalize L2.upd H4 r (.lst (rs.map V.ref++[V.ref bl]))=H5 at s6 b3 w3 t3 r3 ⊢
       have GX:(rem.filter fun o=>o.nm≠l.nm).Sublist rem:=aaN
       generalize hR:(rem.filter fun o=>decide (o.nm≠l.nm))=lU at W2 GX ML
       have R6:(lU.map (·.nm)).Nodup:=(GX.map _).nodup TC
       refine⟨_,rfl,wt,R5,rfl,w3,fun p bs hp YL=>?_⟩
       have s7:=s6.new (o:=.lst (bs.map V.ref)) hp
       have V9:=Paired.length YL
       have Ru:=W2.len
       refine⟨p,rfl,⟨_,hV.of b_⟩,jr (K:=K) (a:=p) (xs:=bs.map V.ref) (fun j σ H6=>∃(v7:Option V)(Kn:List (List Key×V)),σ=[some (.ref a),some (.ref h),some (.ref bn),some (.ref wt),v4,some (.ref r),some (.ref t),v7]∧gb H H6∧H6 bn=some (.dT kb)∧H6 wt=some (.dT Kn)∧H6 t=some (nT l.nm)∧H6 r=some (.lst ((rs++[bl]).map V.ref))∧H6 p=some (.lst (bs.map V.ref))∧(∀b∈bs,∀xs,H5 b=some (.tup xs)→H6 b=some (.tup xs))∧Kn.map (·.1)=lU.map (fun l=>nk l.nm)∧∀(i:Nat)(o:Ln),lU[i]?=some o→iL Kn (nk o.nm)=some (.int ((if i<j then nV (Ah al) lU o else nV (Ah al) rem o:Nat):Int)))
         ⟨v7,R5,rfl,s7,ig hp b3,ig hp w3,ig hp t3,ig hp r3,b_,fun b _ xs e=>ig hp e,W2.keys,fun i o ho=>by rw[aak (by omega)];exact W2.val o (VI ho)⟩ (fun j σ H6 _ ⟨_,_,_,_,_,_,_,_,e,_⟩=>hV.of e) ?_ ?_⟩
       · rintro j v σ H6 hx ⟨v7,Kn,rfl,s8,b4,w4,t4,r4,p4,L_,BH,Ko⟩
         obtain⟨c,hc,rfl⟩:=j7 hx
         obtain⟨⟨k,v⟩,hkv,V_⟩:=lj YL hc
         obtain⟨o,ho,rfl,rfl⟩:=W2.get R6 hkv
         have OY:o∈rem:=GX.subset (VI ho)
         have Wa:H6 c=some (nT o.nm):=L_ c (VI hc) _ V_
         obtain⟨bb,dk,z1,z2,z3⟩:=YI o.nm (yj o (sub.subset OY))
         have Ay:=JP (lt:=Ah al) TC OX o
         have YM:∀(R7:List (List Key×V)),R7.map (·.1)=lU.map (fun l=>nk l.nm)→(∀x∈lU,x.nm≠o.nm→iL R7 (nk x.nm)=iL Kn (nk x.nm))→iL R7 (nk o.nm)=some (.int ((nV (Ah al) lU o:Nat):Int))→∀(i:Nat)(x:Ln),lU[i]?=some x→iL R7 (nk x.nm)=some (.int ((if i<j+1 then nV (Ah al) lU x else nV (Ah al) rem x:Nat):Int)):=fun R7 _ h1 h2 i x R8=>by
           by_cases e:i=j
           · subst e
             rw[ho] at R8
             cases R8
             rw[aap (abJ _)]
             exact h2
           · have Wb:x.nm≠o.nm:=fun z=>by
               have e1:(lU.map (·.nm))[i]?=some o.nm:=by rw[aah,R8,←z];rfl
               have e2:(lU.map (·.nm))[j]?=some o.nm:=by rw[aah,ho];rfl
               exact e ((abu (RL.mp e1).1 R6).mp (e1.trans e2.symm))
             rw[h1 x (VI R8) Wb,Ko i x R8]
             by_cases VM:i<j
             · rw[aap VM,aap (by omega)]
             · rw[aak VM,aak (by omega)]
         rw[hR] at Ay
         refine⟨_,rfl,_,rfl,_,rfl,h,.ref bb,rfl,?_,bb,_,rfl,i3.t (k:=nk l.nm) (s8 _ _ z2) t4,_,rfl,?_⟩
         · have:=i3.t (k:=nk o.nm) (s8 _ _ R0) Wa
           rw[z1] at this
           exact this
         by_cases hm:Ah al l.nm o.nm
         · rw[(z3 l.nm).mpr hm]
           rw[aap hm] at Ay
           refine mD ?_
           have R9:=Ko j o ho
           rw[aak (aa8 _)] at R9
           have hg:i3 H6 wt (.ref c) (some (.int ((nV (Ah al) rem o:Nat):Int))):=by
             have:=i3.t (k:=nk o.nm) w4 Wa
             rw[R9] at this
             exact this
           have hk3:Kn.length=lU.length:=by have:=congrArg List.length BH;rwa [RF,RF] at this
           refine⟨_,rfl,_,rfl,wt,_,rfl,hg,_,_,rfl,rfl,_,rfl,_,rfl,wt,_,rfl,mY.t (k:=nk o.nm) w4 Wa (by omega),?_⟩
           have kk:(putK Kn (nk o.nm) (V.int ((nV (Ah al) rem o:Nat)-1))).map (·.1)=lU.map (fun l=>nk l.nm):=by
             rw[pK,BH]
             exact aap (aaz.mpr ⟨o,VI ho,rfl⟩)
           refine⟨_,_,rfl,s8.upd OV,by rw[de R3];exact b4,b_,by rw[de (i0 t4 w4 (fun z=>by cases z))];exact t4,by rw[de R4.symm];exact r4,by rw[de (i0 p4 w4 (fun z=>by cases z))];exact p4,fun b hb xs e=>?_,kk,YM _ kk (fun x _ Wb=>?_) ?_⟩
           · have:=L_ b hb xs e
             rw[de (i0 this w4 (fun z=>by cases z))];exact this
           · rw[j8,aak (fun z=>Wb (oS z))]
           · rw[j8,aap rfl]
             have e9:((nV (Ah al) rem o:Nat):Int)-1=((nV (Ah al) lU o:Nat):Int):=by omega
             exact congrArg (fun z=>some (V.int z)) e9
         · rw[abc.mpr fun z=>hm ((z3 l.nm).mp z)]
           rw[aak hm] at Ay
           refine k7 ⟨_,Kn,rfl,s8,b4,w4,t4,r4,p4,L_,BH,YM Kn BH (fun x _ _=>rfl) ?_⟩
           have R9:=Ko j o ho
           rw[aak (aa8 _)] at R9
           rw[R9,Ay,Nat.add_zero]
       · rintro σ H6 ⟨v7,Kn,rfl,s8,b4,w4,t4,r4,p4,L_,BH,Ko⟩
         have hlen2:(bs.map V.ref).length=lU.length:=by rw[RF,←V9,Ru]
         refine⟨_,_,Kn,lU,row++[l],rs++[bl],by omega,rfl,s8,b4,w4,r4,il pr hLn,⟨BH,fun o ho=>?_⟩,GX.trans sub,by rw[VO];show row.length+1+lU.length=_;omega,?_⟩
         · obtain⟨i,hi⟩:=aaI.mp ho
           have Pw:=(RL.mp hi).1
           rw[Ko i o hi,aap (by omega)]
         · rw[←EE,←ML,JQ Km,aaK,hR]
           rfl
end
end PK
namespace Kp
open PySem L2
noncomputable abbrev S6:Stmt:=PK.oK
noncomputable abbrev S7:Stmt:=PK.pY
noncomputable abbrev U0:Stmt:=PK.pZ
noncomputable abbrev Mt:Stmt:=PK.Fs
structure Txt(mg:Str→Option Value):Prop where
 len:mg "len"=none
 range:mg "range"=none
 max:mg "max"=none
abbrev gh(l:List Str):List V:=l.map V.str
def tab(old new:List Str)(i:Nat):List V:=(List.range (new.length+1)).map fun j=>V.int (K01.vX old new i j)
theorem Cv{old new:List Str}{i j:Nat}(h:j≤new.length):(tab old new i)[j]?=some (V.int (K01.vX old new i j)):=by
 unfold tab
 rw[aah,List.getElem?_range (by omega)]
 rfl
def part(old new:List Str)(i k:Nat):List V:=(List.range (new.length+1)).map fun j=>if new.length-k≤j then V.int (K01.vX old new i j) else V.int 0
theorem GA{old new:List Str}{i k j:Nat}(h:j≤new.length)(hk:new.length-k≤j):(part old new i k)[j]?=some (V.int (K01.vX old new i j)):=by
 unfold part
 rw[aah,List.getElem?_range (by omega)]
 show some (if _ then _ else _)=_
 rw[aap hk]
theorem zO(old new:List Str)(i k:Nat):(part old new i k).length=new.length+1:=by unfold part;rw[RF,abH]
theorem JR(old new:List Str)(i:Nat):part old new i new.length=tab old new i:=by
 unfold part tab
 refine abv fun j _=>?_
 rw[aap (by omega)]
theorem Bw(old new:List Str)(i n:Nat)(h:n=new.length+1):(List.replicate n [V.int 0]).flatten=part old new i 0:=by
 subst h
 refine List.ext_getElem? fun j=>?_
 unfold part
 rw[aah]
 have e:(List.replicate (new.length+1) [V.int 0]).flatten=List.replicate (new.length+1) (V.int 0):=by
   generalize new.length+1=m
   induction m with
   | zero=>rfl
   | succ m ih=>rw[aa2,abr,ih,aa2];rfl
 rw[e,List.getElem?_replicate]
 by_cases hj:j<new.length+1
 · rw[aap hj,List.getElem?_range hj]
   show some _=some (if _ then _ else _)
   by_cases h2:new.length-0≤j
   · rw[aap h2,K01.yv (.inr (by omega))];rfl
   · rw[aak h2]
 · rw[aak hj,abd.mpr (by rw[abH];omega)]
   rfl
theorem En{old new:List Str}{i k:Nat}(h:k<new.length):(part old new i k).set (new.length-1-k) (V.int (K01.vX old new i (new.length-1-k)))=part old new i (k+1):=by
 refine List.ext_getElem? fun j=>?_
 by_cases e:j=new.length-1-k
 · subst e
   rw[aaZ (by rw[zO];omega),GA (by omega) (by omega)]
 · rw[aa5 (fun z=>e z.symm)]
   unfold part
   rw[aah,aah]
   by_cases hj:j<new.length+1
   · rw[List.getElem?_range hj]
     show some (if _ then _ else _)=some (if _ then _ else _)
     by_cases h2:new.length-k≤j
     · rw[aap h2,aap (by omega)]
     · rw[aak h2,aak (by omega)]
   · rw[abd.mpr (by rw[abH];omega)]
     rfl
theorem n9{l:List Str}{j:Nat}{x:Str}(h:l[j]?=some x):(gh l)[j]?=some (V.str x):=by rw[aah,h];rfl
section
variable{P:Program}{w:World}{K:PySem.W.Frag}{mg:Str→Option Value}{base:Heap}
theorem NY:gm ["text","new","below","counts","second"] ["text","new","below"] (fU S6):=⟨rfl,rfl,rfl,by decide+kernel,rfl,by decide+kernel,by decide+kernel⟩
def QK:Sp:=fun vs H Q _=>∃(old new:List Str)(i:Nat)(t:Str)(n b:Addr),vs=[.str t,.ref n,.ref b]∧old[i]?=some t∧H n=some (.lst (gh new))∧H b=some (.lst (tab old new (i+1)))∧new.length≤1000∧
 ∀p H',gb H H'→H p=none→H' p=some (.lst (tab old new i))→Q (.ref p) H'
theorem QL{f:Addr}{fd:FuncData}(F:Ax K "counts_with" "counts_with" S6 f fd)(T:Txt mg):ie P w K mg base lZ 1 f fd ["text","new","below"] QK:=by
 refine F.ok NY (fun vs H Q E h=>?_) (fun jd A outer s H vs Q E hr h=>?_)
 · obtain⟨old,new,i,t,n,b,rfl,_⟩:=h
   rfl
 · obtain⟨old,new,i,t,n,b,rfl,ht,hn,hb,hl,k⟩:=h
   refine⟨_,c_ (gw (i:=3) NY.nd rfl (Or.inl rfl) (gp Fb (iC (a_ f_ d_)) (gp iJ (gD gr (by rfl) T.len aas (a_ (pv 1) d_)) f_)))
     (c_ (iO PassesOwn.never rfl (vS rfl T.range (a_ (gp BL (gD gr (by rfl) T.len aas (a_ (pv 1) d_)) f_) (a_ (wU qU f_) (a_ (wU qU f_) d_)))) (gA (i:=4) NY.nd rfl (Or.inl rfl))
       (e_ (iw (ib jO (iA h_ (pv 1) (pv 4) (fun _ _=>rfl)) (pv 0) (ij _))
         (e_ (BK (gp iJ (iA h_ (pv 2) (gp iJ (pv 4) f_) (fun _ _=>rfl)) f_) (BJ (pv 3) (pv 4) set_list)))
         (e_ (BK (gD (Hc rfl) (by rfl) T.max PyProof.Rows.boot_max (a_ (iA h_ (pv 2) (pv 4) (fun _ _=>rfl)) (a_ (iA h_ (pv 3) (gp iJ (pv 4) f_) (fun _ _=>rfl)) d_))) (BJ (pv 3) (pv 4) set_list))))))
     (e_ (gG (pv 3)))),?_⟩
   refine⟨jK,fun l Pz=>?_⟩
   have MM:(upd H l (.lst [V.int 0])) n=some (.lst (gh new)):=by rw[de (gg hn Pz)];exact hn
   refine⟨_,rfl,n,_,rfl,.inl (hV.of MM),_,_,rfl,rfl,l,_,_,rfl,rfl,b_,by simp<;>omega,by simp<;>omega,by simp;have:sizeLine=2 ^ 24:=rfl;omega,fun p hp=>?_⟩
   have oW:p≠l:=fun z=>by rw[z,b_] at hp;cases hp
   have FR:H p=none:=by rw[de oW] at hp;exact hp
   have s0:gb H (upd H l (.lst [V.int 0])):=(gb.refl H).upd Pz
   have e0:(List.replicate (((gh new).length:Int)+1).toNat [V.int 0]).flatten=part old new i 0:=Bw old new i _ (by simp<;>omega)
   rw[e0]
   have s1:gb H (upd (upd H l (.lst [V.int 0])) p (.lst (part old new i 0))):=s0.upd FR
   refine⟨_,rfl,n,_,rfl,.inl (hV.of (s1 n _ hn)),_,_,rfl,rfl,_,rfl,_,rfl,_,_,rfl,⟨by simp<;>omega,by simp<;>omega,by omega,by omega⟩,?_⟩
   have en:((((gh new).length:Int)-1) - -1).toNat=new.length:=by simp<;>omega
   rw[en]
   refine tU (fun m σ H2=>∃v,σ=[some (.str t),some (.ref n),some (.ref b),some (.ref p),v]∧gb H H2∧H2 p=some (.lst (part old new i m))) ⟨none,rfl,s1,b_⟩ ?_ ?_
   · rintro m σ H2 hm ⟨v,rfl,s2,h2⟩
     obtain⟨j,hj⟩:∃j,j=new.length-1-m:=⟨_,rfl⟩
     have hjl:j<new.length:=by omega
     rw[show((gh new).length:Int)-1+(m:Int) * -1=(j:Int) by simp<;>omega]
     have OZ:new[j]?=some new[j]:=UR hjl
     have B:=K01.Lq ht OZ
     refine⟨_,rfl,_,rfl,n,_,_,_,rfl,rfl,hV.of (s2 n _ hn),iB rfl (n9 OZ),_,rfl,rfl,_,rfl,?_⟩
     refine jT (fun hc=>?_) (fun hc=>?_)
     · have hc:new[j]=t:=by have:=aar hc;injection this
       rw[aap hc] at B
       refine⟨_,rfl,_,rfl,_,_,rfl,rfl,b,_,_,_,rfl,rfl,hV.of (s2 b _ hb),iB (j:=j+1) (by omega) (Cv (by omega)),_,_,rfl,rfl,_,rfl,_,rfl,p,_,_,j,rfl,rfl,h2,B2 rfl (by rw[zO];omega),?_⟩
       refine⟨_,rfl,s2.upd FR,?_⟩
       rw[b_]
       dsimp only
       have e:((K01.vX old new (i+1) (j+1):Nat):Int)+1=((K01.vX old new i j:Nat):Int):=by omega
       rw[e,hj,En hm]
     · have hc:¬new[j]=t:=fun z=>hc (by rw[z];exact UW rfl)
       rw[aak hc] at B
       refine⟨_,rfl,_,rfl,b,_,_,_,rfl,rfl,hV.of (s2 b _ hb),iB rfl (Cv (by omega)),_,rfl,_,rfl,_,_,rfl,rfl,p,_,_,_,rfl,rfl,hV.of h2,iB (j:=j+1) (by omega) (GA (by omega) (by omega)),_,_,rfl,_,rfl,_,rfl,p,_,_,j,rfl,rfl,h2,B2 rfl (by rw[zO];omega),?_⟩
       refine⟨_,rfl,s2.upd FR,?_⟩
       rw[b_]
       have e:(if((K01.vX old new i (j+1):Nat):Int)>((K01.vX old new (i+1) j:Nat):Int) then((K01.vX old new i (j+1):Nat):Int) else((K01.vX old new (i+1) j:Nat):Int))=((K01.vX old new i j:Nat):Int):=by split<;>omega
       rw[e,hj,En hm]
   · rintro σ H2 ⟨v,rfl,s2,h2⟩
     refine⟨_,rfl,k p H2 s2 FR ?_⟩
     rw[h2,JR]
def Mu(H:Hp)(old new:List Str)(rows:List V)(R_:Nat):Prop:=rows.length=old.length+1∧∀i,i≤old.length→∃a,rows[i]?=some (.ref a)∧(R_≤i→H a=some (.lst (tab old new i)))
abbrev nMP:List Str:=["old","new","table","first","place"]
theorem LB:gm ["old","new","table","first","place"] ["old","new"] (fU S7):=⟨rfl,rfl,rfl,by decide+kernel,rfl,by decide+kernel,by decide+kernel⟩
def QM:Sp:=fun vs H Q _=>∃(old new:List Str)(o n:Addr),vs=[.ref o,.ref n]∧H o=some (.lst (gh old))∧H n=some (.lst (gh new))∧old.length≤1000∧new.length≤1000∧
 ∀p H' rows,gb H H'→H p=none→H' p=some (.lst rows)→Mu H' old new rows 0→Q (.ref p) H'
theorem JS(new:List Str)(n:Nat)(h:n=new.length+1):(List.replicate n [V.int 0]).flatten=tab [] new 0:=by
 rw[Bw [] new 0 n h]
 unfold part tab
 refine abv fun j _=>?_
 rw[show K01.vX ([]:List Str) new 0 j=0 from K01.yv (.inl (by simp))]
 split<;>rfl
theorem LC(old new:List Str)(n:Nat)(h:n=new.length+1):(List.replicate n [V.int 0]).flatten=tab old new old.length:=by
 rw[JS new n h]
 unfold tab
 refine abv fun j _=>?_
 rw[show K01.vX ([]:List Str) new 0 j=0 from K01.yv (.inl (by simp)),K01.yv (.inl (UU _))]
theorem QN{f fC:Addr}{fd PN:FuncData}(F:Ax K "most_pairs" "most_pairs" S7 f fd)(T:Txt mg)(C:Ax K "counts_with" "counts_with" S6 fC PN)(bC:Binds K PN ["text","new","below"] [])(mC:mg "counts_with"=some (.ref fC)) :
   ie P w K mg base lZ 2 f fd ["old","new"] QM:=by
 have GC:ie P w K mg base lZ 1 fC PN ["text","new","below"] QK:=QL C T
 refine F.ok LB (fun vs H Q E h=>?_) (fun jd A outer s H vs Q E hr h=>?_)
 · obtain⟨old,new,o,n,rfl,_⟩:=h
   rfl
 · obtain⟨old,new,o,n,rfl,ho,hn,Vi,yk,k⟩:=h
   refine⟨_,c_ (DG (j:=2) nMP (fU S7).names [4] LB.nd rfl rfl rfl (ke rfl T.range (a_ (gp iJ (gD gr (by rfl) T.len aas (a_ (pv 0) d_)) f_) d_)) rfl (by decide+kernel)
       (fun _ _ _ _=>gA (i:=4) LB.nd rfl (Or.inl rfl)) (fun _ _ _ _=>lC) (fun _ _ _ _=>⟨_,gp Fb (iC (a_ f_ d_)) (gp iJ (gD gr (by rfl) T.len aas (a_ (pv 1) d_)) f_),by(try simp only [ir]);rfl⟩))
     (c_ (iO PassesOwn.never rfl (vS rfl T.range (a_ (gp BL (gD gr (by rfl) T.len aas (a_ (pv 0) d_)) f_) (a_ (wU qU f_) (a_ (wU qU f_) d_)))) (gA (i:=3) LB.nd rfl (Or.inl rfl))
       (e_ (BK (uE GC hr rfl mC C.kp bC .nil lg (a_ (iA h_ (pv 0) (pv 3) (fun _ _=>rfl)) (a_ (pv 1) (a_ (iA h_ (pv 2) (gp iJ (pv 3) f_) (fun _ _=>rfl)) d_)))) (BJ (pv 2) (pv 3) set_list))))
     (e_ (gG (pv 2)))),?_⟩
   refine⟨_,rfl,o,_,rfl,.inl (hV.of ho),_,_,rfl,rfl,_,rfl,by simp<;>omega,by simp<;>omega,?_⟩
   have en:(((gh old).length:Int)+1).toNat=old.length+1:=by simp<;>omega
   rw[en]
   refine qX (by have:sizeLine=2 ^ 24:=rfl;omega) (fun m ys σ H2=>∃v,σ=[some (.ref o),some (.ref n),none,none,v]∧gb H H2∧ys.length=m∧∀i,i<m→∃a,ys[i]?=some (.ref a)∧H a=none∧H2 a=some (.lst (tab old new old.length)))
     ⟨none,rfl,gb.refl H,rfl,fun i hi=>absurd hi (Nat.not_lt_zero _)⟩ (fun i ys σ H ⟨_,_,_,e,_⟩=>Nat.le_of_eq e) ?_ ?_
   · rintro m ys σ H2 hm ⟨v,rfl,s2,hy,EO⟩
     refine⟨jK,fun l Pz=>?_⟩
     have s3:gb H (upd H2 l (.lst [V.int 0])):=s2.new Pz
     refine⟨_,rfl,n,_,rfl,.inl (hV.of (s3 n _ hn)),_,_,rfl,rfl,l,_,_,rfl,rfl,b_,by simp<;>omega,by simp<;>omega,by simp;have:sizeLine=2 ^ 24:=rfl;omega,fun p hp=>?_⟩
     rw[LC old new _ (show(((gh new).length:Int)+1).toNat=new.length+1 by simp<;>omega)]
     have oW:p≠l:=fun z=>by rw[z,b_] at hp;cases hp
     have yi:H2 p=none:=by rw[de oW] at hp;exact hp
     refine⟨_,rfl,s3.new hp,by rw[VO,hy];rfl,fun i hi=>?_⟩
     by_cases e:i<m
     · obtain⟨a,e1,e2,e3⟩:=EO i e
       refine⟨a,by rw[abo (by omega)];exact e1,e2,?_⟩
       rw[de (gg e3 yi),de (gg e3 Pz)]
       exact e3
     · have:i=m:=by omega
       subst this
       exact⟨p,by rw[aa4 (by omega),hy];simp,s2.free yi,b_⟩
   · rintro ys σ H2 ⟨v,rfl,s2,hy,EO⟩ p hp
     have s3:gb H (upd H2 p (.lst ys)):=s2.new hp
     have FR:H p=none:=s2.free hp
     refine⟨_,rfl,o,_,rfl,.inl (hV.of (s3 o _ ho)),_,_,rfl,rfl,_,rfl,_,rfl,_,_,rfl,⟨by simp<;>omega,by simp<;>omega,by omega,by omega⟩,?_⟩
     have en:((((gh old).length:Int)-1) - -1).toNat=old.length:=by simp<;>omega
     rw[en]
     refine tU (fun m σ H3=>∃v w rows,σ=[some (.ref o),some (.ref n),some (.ref p),v,w]∧gb H H3∧H3 p=some (.lst rows)∧Mu H3 old new rows (old.length-m)∧∀i a,i≤old.length→rows[i]?=some (.ref a)→a≠p)
       ⟨_,_,ys,rfl,s3,b_,⟨hy,fun i hi=>?_⟩,fun i a hi ha=>?_⟩ ?_ ?_
     · obtain⟨a,e1,e2,e3⟩:=EO i (by omega)
       refine⟨a,e1,fun z=>?_⟩
       have:i=old.length:=by omega
       subst this
       rw[de (gg e3 hp)]
       exact e3
     · obtain⟨a',e1,e2,e3⟩:=EO i (by omega)
       rw[ha] at e1
       cases e1
       exact gg e3 hp
     · rintro m σ H3 hm ⟨v,w',rows,rfl,s4,h4,tb,nb⟩
       obtain⟨i,hi⟩:∃i,i=old.length-1-m:=⟨_,rfl⟩
       have Pw:i<old.length:=by omega
       rw[show((gh old).length:Int)-1+(m:Int) * -1=(i:Int) by simp<;>omega]
       have Tp:old[i]?=some old[i]:=UR Pw
       obtain⟨b,e1,e2⟩:=tb.2 (i+1) (by omega)
       refine⟨_,rfl,_,rfl,o,_,_,_,rfl,rfl,hV.of (s4 o _ ho),iB rfl (n9 Tp),_,rfl,_,rfl,_,rfl,_,_,rfl,rfl,p,_,_,_,rfl,rfl,hV.of h4,iB (j:=i+1) (by omega) e1,?_⟩
       refine⟨old,new,i,_,n,b,rfl,Tp,s4 n _ hn,e2 (by omega),yk,fun q H5 s5 YN h5=>?_⟩
       have YO:q≠p:=fun z=>by rw[z,h4] at YN;cases YN
       refine⟨_,rfl,_,rfl,p,rows,_,i,rfl,rfl,s5 p _ h4,B2 rfl (by rw[tb.1];omega),?_⟩
       refine⟨_,_,_,rfl,(s4.trans s5).upd FR,b_,⟨by rw[abM];exact tb.1,fun i' AY=>?_⟩,fun i' a AY ha=>?_⟩
       · by_cases e:i'=i
         · subst e
           refine⟨q,by rw[aaZ (by rw[tb.1];omega)],fun _=>?_⟩
           rw[de YO];exact h5
         · obtain⟨a,a1,a2⟩:=tb.2 i' AY
           refine⟨a,by rw[aa5 (fun z=>e z.symm)];exact a1,fun z=>?_⟩
           rw[de (nb i' a AY a1)]
           exact s5 a _ (a2 (by omega))
       · by_cases e:i'=i
         · subst e
           rw[aaZ (by rw[tb.1];omega)] at ha
           cases ha
           exact YO
         · rw[aa5 (fun z=>e z.symm)] at ha
           exact nb i' a AY ha
     · rintro σ H3 ⟨v,w',rows,rfl,s4,h4,tb,nb⟩
       refine⟨_,rfl,k p H3 rows s4 FR h4 ?_⟩
       rw[Nat.sub_self] at tb
       exact tb
end
end Kp
namespace K01
theorem Cw{α:Type}[DecidableEq α]{a:α}{new:List α}{j k:Nat}(hj:j≤k)(hk:new[k]?=some a)(hm:∀l,j≤l→l<k→new[l]?≠some a):i4 a new j=some k:=by
 cases e:i4 a new j with
 | none=>exact absurd hk (nr e k hj)
 | some k'=>
   obtain⟨h1,h2,h3⟩:=ky e
   rcases Nat.lt_trichotomy k k' with h|h|h
   · exact absurd hk (h3 k hj h)
   · rw[h]
   · exact absurd h2 (hm k' h1 h)
theorem Cy{α:Type}[DecidableEq α]{a:α}{new:List α}{j:Nat}(hm:∀l,j≤l→l<new.length→new[l]?≠some a):i4 a new j=none:=by
 cases e:i4 a new j with
 | none=>rfl
 | some k'=>
   obtain⟨h1,h2,h3⟩:=ky e
   exact absurd h2 (hm k' h1 (RL.mp h2).1)
end K01
namespace Kp
open PySem L2
section
variable{P:Program}{w:World}{K:PySem.W.Frag}{mg:Str→Option Value}{base:Heap}
def U1:Option Nat→V
 | none=>.jv
 | some k=>.int k
theorem QO:gm ["texts","text","start","place"] ["texts","text","start"] (fU U0):=⟨rfl,rfl,rfl,by decide+kernel,rfl,by decide+kernel,by decide+kernel⟩
def QP:Sp:=fun vs H Q _=>∃(new:List Str)(t:Str)(n:Addr)(j:Nat),vs=[.ref n,.str t,.int j]∧H n=some (.lst (gh new))∧new.length≤1000∧j≤1000∧Q (U1 (K01.i4 t new j)) H
theorem QQ{f:Addr}{fd:FuncData}(F:Ax K "place_from" "place_from" U0 f fd)(T:Txt mg):ie P w K mg base lZ 1 f fd ["texts","text","start"] QP:=by
 refine F.ok QO (fun vs H Q E h=>?_) (fun jd A outer s H vs Q E hr h=>?_)
 · obtain⟨new,t,n,j,rfl,_⟩:=h
   rfl
 · obtain⟨new,t,n,j,rfl,hn,hl,hj,k⟩:=h
   refine⟨_,c_ (iO PassesOwn.never rfl (A4 rfl T.range (a_ (pv 2) (a_ (gD gr (by rfl) T.len aas (a_ (pv 0) d_)) d_))) (gA (i:=3) QO.nd rfl (Or.inl rfl))
       (e_ (iw (ib jO (iA h_ (pv 0) (pv 3) (fun _ _=>rfl)) (pv 1) (ij _)) (e_ (gG (pv 3))) hG)))
     (e_ (gG tQ)),?_⟩
   refine⟨_,rfl,_,rfl,n,_,rfl,.inl (hV.of hn),_,_,rfl,⟨by omega,by omega,by simp<;>omega,by simp<;>omega⟩,?_⟩
   refine lY (fun m σ H2=>∃v,σ=[some (.ref n),some (.str t),some (.int j),v]∧H2=H∧∀l,j≤l→l<j+m→new[l]?≠some t) ⟨none,rfl,rfl,fun l h1 h2=>by omega⟩ ?_ ?_
   · rintro m σ H2 hm ⟨v,rfl,rfl,h2⟩
     have hm:j+m<new.length:=by simp at hm;omega
     rw[show(j:Int)+(m:Int)=((j+m:Nat):Int) by omega]
     have OZ:new[j+m]?=some new[j+m]:=UR hm
     refine⟨_,rfl,_,rfl,n,_,_,_,rfl,rfl,hV.of hn,iB rfl (n9 OZ),_,rfl,rfl,_,rfl,?_⟩
     refine jT (fun hc=>?_) (fun hc=>?_)
     · have hc:new[j+m]=t:=by have:=aar hc;injection this
       rw[hc] at OZ
       rw[K01.Cw (Nat.le_add_right j m) OZ h2] at k
       exact⟨_,rfl,k⟩
     · have hc:¬new[j+m]=t:=fun z=>hc (by rw[z];exact UW rfl)
       refine⟨_,rfl,rfl,fun l h3 h4=>?_⟩
       by_cases e:l=j+m
       · subst e
         rw[OZ]
         intro z
         exact hc (aat z)
       · exact h2 l h3 (by omega)
   · rintro σ H2 ⟨v,rfl,rfl,h2⟩
     rw[K01.Cy (j:=j) fun l h3 h4=>h2 l h3 (by simp<;>omega)] at k
     exact k
def lR(H:Hp)(q:Nat×Nat)(v:V):Prop:=∃a,v=.ref a∧H a=some (.tup [.int q.1,.int q.2])
abbrev iX(H:Hp)(l:List (Nat×Nat))(vs:List V):Prop:=Paired (lR H) l vs
theorem iX.keep{H H':Hp}{l:List (Nat×Nat)}{vs:List V}(h:iX H l vs)(k:∀a xs,H a=some (.tup xs)→H' a=some (.tup xs)):iX H' l vs:=
 Paired.kx h fun q v ⟨a,e,h⟩=>⟨a,e,k a _ h⟩
theorem NZ:gm ["old","new","table","pairs","start","first","second"] ["old","new"] (fU Mt):=⟨rfl,rfl,rfl,by decide+kernel,rfl,by decide+kernel,by decide+kernel⟩
def XZ:Sp:=fun vs H Q _=>∃(old new:List Str)(o n:Addr),vs=[.ref o,.ref n]∧H o=some (.lst (gh old))∧H n=some (.lst (gh new))∧old.length≤1000∧new.length≤1000∧
 ∀p H' ps,gb H H'→H p=none→H' p=some (.lst ps)→iX H' (K01.kept old new) ps→Q (.ref p) H'
theorem LD{f fM fC fP:Addr}{fd Wc PN Wd:FuncData}(F:Ax K "kept" "kept" Mt f fd)(T:Txt mg)(C:Ax K "counts_with" "counts_with" S6 fC PN)(bC:Binds K PN ["text","new","below"] [])(mC:mg "counts_with"=some (.ref fC))
   (M:Ax K "most_pairs" "most_pairs" S7 fM Wc) (bM:Binds K Wc ["old","new"] []) (mM:mg "most_pairs"=some (.ref fM)) (Pf:Ax K "place_from" "place_from" U0 fP Wd) (bP:Binds K Wd ["texts","text","start"] []) (mP:mg "place_from"=some (.ref fP)) :
   ie P w K mg base lZ 3 f fd ["old","new"] XZ:=by
 have GM:ie P w K mg base lZ 2 fM Wc ["old","new"] QM:=QN M T C bC mC
 have GP:ie P w K mg base lZ 2 fP Wd ["texts","text","start"] QP:=(QQ Pf T).mono (by decide)
 refine F.ok NZ (fun vs H Q E h=>?_) (fun jd A outer s H vs Q E hr h=>?_)
 · obtain⟨old,new,o,n,rfl,_⟩:=h
   rfl
 · obtain⟨old,new,o,n,rfl,ho,hn,Vi,yk,k⟩:=h
   refine⟨_,c_ (gw (i:=2) NZ.nd rfl (Or.inl rfl) (uE GM hr rfl mM M.kp bM .nil lg (a_ (pv 0) (a_ (pv 1) d_))))
     (c_ (gw (i:=3) NZ.nd rfl (Or.inl rfl) (iC d_))
     (c_ (gw (i:=4) NZ.nd rfl (Or.inl rfl) f_)
     (c_ (iO PassesOwn.never rfl (ke rfl T.range (a_ (gD gr (by rfl) T.len aas (a_ (pv 0) d_)) d_)) (gA (i:=5) NZ.nd rfl (Or.inl rfl))
       (c_ (gw (i:=6) NZ.nd rfl (Or.inl rfl) (uE GP hr rfl mP Pf.kp bP .nil lg (a_ (pv 1) (a_ (iA h_ (pv 0) (pv 5) (fun _ _=>rfl)) (a_ (pv 4) d_)))))
       (e_ (iw (pw_and (jq (sE (pv 6))) (pw_and1 (ib jO
           (gp iJ (iA h_ (iA h_ (pv 2) (gp iJ (pv 5) f_) (fun _ _=>rfl)) (gp iJ (pv 6) f_) (fun _ _=>rfl)) f_)
           (iA h_ (iA h_ (pv 2) (pv 5) (fun _ _=>rfl)) (pv 4) (fun _ _=>rfl)) (ij _)))).pt
         (c_ (hZ (qy aaG aaS aaT kF (pv 3) (a_ (BO (a_ (pv 5) (a_ (pv 6) d_))) d_)))
         (e_ (gw (i:=4) NZ.nd rfl (Or.inl rfl) (gp iJ (pv 6) f_))))
         hG))))
     (e_ (gG (pv 3)))))),?_⟩
   refine⟨_,rfl,_,rfl,old,new,o,n,rfl,ho,hn,Vi,yk,fun tb H1 rows s1 V1 h1 Sb=>?_⟩
   refine⟨jK,fun pr TF=>?_⟩
   have We:H pr=none:=s1.free TF
   refine⟨_,rfl,o,_,rfl,.inl (hV.of (s1.new TF o _ ho)),_,rfl,by simp<;>omega,by simp<;>omega,?_⟩
   have en:((gh old).length:Int).toNat=old.length:=by simp
   rw[en]
   refine lY (fun m σ H2=>∃(j:Nat)(acc:List (Nat×Nat))(ps:List V)(v w:Option V),σ=[some (.ref o),some (.ref n),some (.ref tb),some (.ref pr),some (.int j),v,w]∧gb H1 H2∧H2 pr=some (.lst ps)∧iX H2 acc ps∧acc.length≤m∧j≤new.length∧
       acc++K01.o_ new m (old.drop m) j=K01.kept old new) ⟨0,[],[],none,none,rfl,(gb.refl H1).new TF,b_,.nil,UU _,aaD _,rfl⟩ ?_ ?_
   · rintro m σ H2 hm ⟨j,acc,ps,v,w',rfl,s2,h2,pa,vH,hj,hk⟩
     rw[show(0:Int)+(m:Int)=(m:Int) by omega]
     have hom:old[m]?=some old[m]:=UR hm
     have hd:old.drop m=old[m]::old.drop (m+1):=aaL hm
     rw[hd,K01.o_] at hk
     refine⟨_,rfl,_,rfl,_,rfl,o,_,_,_,rfl,rfl,hV.of (s2 o _ (s1 o _ ho)),iB rfl (n9 hom),_,rfl,new,_,n,j,rfl,s2 n _ (s1 n _ hn),yk,by omega,?_⟩
     cases e:K01.i4 old[m] new j with
     | none=>
       rw[e] at hk
       refine⟨_,rfl,_,rfl,Qv (by rfl) (k7 ?_)⟩
       exact⟨j,acc,ps,_,_,rfl,s2,h2,pa,by omega,hj,hk⟩
     | some q=>
       rw[e] at hk
       simp only at hk
       obtain⟨hq1,hq2,hq3⟩:=K01.ky e
       have MN:q<new.length:=(RL.mp hq2).1
       obtain⟨a1,ea1,Wf⟩:=Sb.2 (m+1) (by omega)
       obtain⟨a0,ea0,Wg⟩:=Sb.2 m (by omega)
       have Wf:=s2 a1 _ (Wf (aaD _))
       have Wg:=s2 a0 _ (Wg (aaD _))
       have Sd:H2 tb=some (.lst rows):=s2 tb _ h1
       refine⟨_,rfl,_,rfl,Jg (by rfl) ?_⟩
       refine⟨_,rfl,_,rfl,_,_,rfl,rfl,tb,_,_,_,rfl,rfl,hV.of Sd,iB (j:=m+1) (by omega) ea1,_,rfl,_,_,rfl,rfl,a1,_,_,_,rfl,rfl,hV.of Wf,iB (j:=q+1) (by omega) (Cv (by omega)),_,_,rfl,rfl,
         _,rfl,_,rfl,tb,_,_,_,rfl,rfl,hV.of Sd,iB rfl ea0,_,rfl,a0,_,_,_,rfl,rfl,hV.of Wg,iB rfl (Cv (by omega)),rfl,_,rfl,?_⟩
       refine jT (fun hc=>?_) (fun hc=>?_)
       · have hc:((K01.vX old new (m+1) (q+1):Nat):Int)+1=((K01.vX old new m j:Nat):Int):=by have:=aar hc;injection this
         have BG:K01.lcs (old.drop (m+1)) (new.drop (q+1))+1=K01.lcs (old[m]::old.drop (m+1)) (new.drop j):=by rw[←hd];unfold K01.vX at hc;omega
         rw[aap BG] at hk
         refine⟨_,rfl,.inl ⟨rfl,_,hV.of h2⟩,_,rfl,_,rfl,jK,fun t ht=>?_⟩
         have oW:=pa.length
         have YQ:pr≠t:=gg h2 ht
         refine⟨pr,ps,_,rfl,rfl,by rw[de YQ];exact h2,by have:sizeLine=2 ^ 24:=rfl;omega,?_⟩
         refine⟨_,rfl,_,_,rfl,rfl,q+1,acc++[(m,q)],ps++[.ref t],_,_,rfl,(s2.new ht).upd TF,b_,?_,by rw[VO];simp;omega,by omega,by rw[aaK];exact hk⟩
         refine Paired.snoc (pa.keep fun a xs ha=>?_) ⟨t,rfl,?_⟩
         · rw[de (i0 ha h2 (by intro z;cases z)),de (gg ha ht)];exact ha
         · rw[de (Ne.symm YQ),b_]
           rfl
       · have hc:¬((K01.vX old new (m+1) (q+1):Nat):Int)+1=((K01.vX old new m j:Nat):Int):=fun z=>hc (UW (congrArg V.int z))
         have BG:¬K01.lcs (old.drop (m+1)) (new.drop (q+1))+1=K01.lcs (old[m]::old.drop (m+1)) (new.drop j):=by rw[←hd];unfold K01.vX at hc;omega
         rw[aak BG] at hk
         exact⟨j,acc,ps,_,_,rfl,s2,h2,pa,by omega,hj,hk⟩
   · rintro σ H2 ⟨j,acc,ps,v,w',rfl,s2,h2,pa,vH,hj,hk⟩
     rw[abL,K01.o_,aaB] at hk
     rw[hk] at pa
     exact⟨_,rfl,k pr H2 ps (s1.trans s2) We h2 pa⟩
end
end Kp
namespace PK
open PySem L2 PM
open Kp (lR iX)
theorem N0(a b c d:V):jx "lower_name" d (jx "upper_name" c (jx "text" b (jx "name" a [])))=Lx a b c d:=by kernel_rfl
theorem N1(a b c d e:V):jx "other" e (jx "cuts" d (jx "puts" c (jx "file" b (jx "name" a []))))=Ly a b c d e:=by kernel_rfl
def Pm(a l:Addr):List (Str×V):=[("ahead",.ref a),("lines",.ref l)]
theorem N3(a l:Addr):jx "lines" (.ref l) (jx "ahead" (.ref a) [])=Pm a l:=by kernel_rfl
theorem ll(a l:Addr):(Pm a l).lookup ("lines":Str)=some (V.ref l):=by kernel_rfl
theorem Fz(a l:Addr):(Pm a l).lookup ("ahead":Str)=some (V.ref a):=by kernel_rfl
theorem N4(a l:Addr):(Pm a l).lookup ("is_ahead":Str)=none:=by kernel_rfl
theorem JT(a l:Addr):(Pm a l).lookup ("quarrelling":Str)=none:=by kernel_rfl
theorem HH(a:Addr):(jx ("ahead":Str) (.ref a) []).lookup ("ahead":Str)=some (V.ref a):=by kernel_rfl
def FA(A:Ad)(H:Hp)(p:Addr)(al row:List Ln):Prop:=∃dx ah l,H p=some (.ins A.hU dx (Pm ah l))∧Ct H ah al∧qj A H l row
theorem FA.same{A:Ad}{H H':Hp}{p:Addr}{al row:List Ln}(x:FA A H p al row)(s:gb H H'):FA A H' p al row:=by
 obtain⟨dx,ah,l,h1,h2,h3⟩:=x
 exact⟨dx,ah,l,s _ _ h1,h2.same s,h3.same s⟩
section
variable{P:Program}{w:World}{K:PySem.W.Frag}{mg:Str→Option Value}{base:Heap}{A:Ad}
def QR(A:Ad):Sp:=fun vs H Q _=>∃(p dx:Addr)(a b c d:V),vs=[.ref p,a,b,c,d]∧H p=some (.ins A.gH dx [])∧∀H',(∀x,x≠p→H' x=H x)→H' p=some (.ins A.gH dx (Lx a b c d))→Q .jv H'
theorem Cz(T:Txt mg)(O:Ok K mg A):ie P w K mg base lZ 1 A.mL A.qC ["self","name","text","upper_name","lower_name"] (QR A):=by
 refine O.tJ.f.ok vZ (fun vs H Q E h=>?_) (fun jd A0 outer s H vs Q E hr h=>?_)
 · obtain⟨p,dx,a,b,c,d,rfl,_⟩:=h
   rfl
 · obtain⟨p,dx,a,b,c,d,rfl,hp,k⟩:=h
   refine⟨_,(c_ (ly (pv 0) (pv 1) rfl)
     (c_ (ly (pv 0) (pv 2) rfl)
     (c_ (ly (pv 0) (pv 3) rfl)
     (e_ (ly (pv 0) (pv 4) rfl))))),?_⟩
   refine⟨_,rfl,_,rfl,p,A.gH,dx,_,rfl,hp,O.iK,O.gE,(by show 0<1000;decide),?_⟩
   refine⟨_,rfl,_,rfl,p,A.gH,dx,_,rfl,b_,O.iK,O.jE,(by show 1<1000;decide),?_⟩
   refine⟨_,rfl,_,rfl,p,A.gH,dx,_,rfl,b_,O.iK,O.iE,(by show 2<1000;decide),?_⟩
   refine⟨_,rfl,_,rfl,p,A.gH,dx,_,rfl,b_,O.iK,O.iF,(by show 3<1000;decide),?_⟩
   exact k _ (fun x hx=>by rw[de hx,de hx,de hx,de hx]) (Eq.trans b_ (congrArg (fun l=>some (HO.ins A.gH dx l)) (N0 a b c d)))
def QS(A:Ad):Sp:=fun vs H Q _=>∃(p dx:Addr)(a b c d e:V),vs=[.ref p,a,b,c,d,e]∧H p=some (.ins A.hE dx [])∧∀H',(∀x,x≠p→H' x=H x)→H' p=some (.ins A.hE dx (Ly a b c d e))→Q .jv H'
theorem oU(T:Txt mg)(O:Ok K mg A):ie P w K mg base lZ 1 A.ma A.pf ["self","name","file","puts","cuts","other"] (QS A):=by
 refine O.lO.f.ok uO (fun vs H Q E h=>?_) (fun jd A0 outer s H vs Q E hr h=>?_)
 · obtain⟨p,dx,a,b,c,d,e,rfl,_⟩:=h
   rfl
 · obtain⟨p,dx,a,b,c,d,e,rfl,hp,k⟩:=h
   refine⟨_,(c_ (ly (pv 0) (pv 1) rfl)
     (c_ (ly (pv 0) (pv 2) rfl)
     (c_ (ly (pv 0) (pv 3) rfl)
     (c_ (ly (pv 0) (pv 4) rfl)
     (e_ (ly (pv 0) (pv 5) rfl)))))),?_⟩
   refine⟨_,rfl,_,rfl,p,A.hE,dx,_,rfl,hp,O.jl,O.iT,(by show 0<1000;decide),?_⟩
   refine⟨_,rfl,_,rfl,p,A.hE,dx,_,rfl,b_,O.jl,O.kj,(by show 1<1000;decide),?_⟩
   refine⟨_,rfl,_,rfl,p,A.hE,dx,_,rfl,b_,O.jl,O.jL,(by show 2<1000;decide),?_⟩
   refine⟨_,rfl,_,rfl,p,A.hE,dx,_,rfl,b_,O.jl,O.jM,(by show 3<1000;decide),?_⟩
   refine⟨_,rfl,_,rfl,p,A.hE,dx,_,rfl,b_,O.jl,O.iV,(by show 4<1000;decide),?_⟩
   exact k _ (fun x hx=>by rw[de hx,de hx,de hx,de hx,de hx]) (Eq.trans b_ (congrArg (fun l=>some (HO.ins A.hE dx l)) (N1 a b c d e)))
def LF(A:Ad):Sp:=fun vs H Q _=>∃(p dx a:Addr)(ps:List Pt)(f:Str),vs=[.ref p,.ref a,.str f]∧H p=some (.ins A.hU dx [])∧ye A H a ps∧Small ps∧
 ((g_ ps f).map (·.nm)).Nodup∧pX (g_ ps f)∧Jy (g_ ps f)∧
 ∀(H':Hp),(∀b o,H b=some o→b≠p→H' b=some o)→FA A H' p (g_ ps f) (rowOf (Ah (g_ ps f)) (nu ps f))→Q .jv H'
theorem lr.off{H H':Hp}{p C dx:Addr}{fs:List (Str×V)}{v:V}{n:Nm}(x:lr H v n)(hp:H p=some (.ins C dx fs))(s:∀b o,H b=some o→b≠p→H' b=some o):lr H' v n:=by
 obtain⟨t,e,h⟩:=x
 exact⟨t,e,s _ _ h (i0 h hp (fun z=>by cases z))⟩
theorem Fv.off{H H':Hp}{p C dx:Addr}{fs:List (Str×V)}{v:V}{n:Option Nm}(x:Fv H v n)(hp:H p=some (.ins C dx fs))(s:∀b o,H b=some o→b≠p→H' b=some o):Fv H' v n:=by
 cases n with
 | none=>exact x
 | some n=>exact lr.off x hp s
theorem mR.off{H H':Hp}{p C dx a:Addr}{fs:List (Str×V)}{l:Ln}(x:mR A H a l)(hp:H p=some (.ins C dx fs))(hf:fs.length<2)(s:∀b o,H b=some o→b≠p→H' b=some o):mR A H' a l:=by
 obtain⟨Wi,vn,vu,vl,h,h1,h2,h3⟩:=x
 have:a≠p:=fun z=>by
   rw[z,hp] at h
   have e:=aat h
   injection e with _ _ e
   rw[e] at hf
   exact absurd hf (by unfold Lx;simp)
 exact⟨Wi,vn,vu,vl,s _ _ h this,h1.off hp s,h2.off hp s,h3.off hp s⟩
theorem qj.off{H H':Hp}{p C dx a:Addr}{fs:List (Str×V)}{ls:List Ln}(x:qj A H a ls)(hp:H p=some (.ins C dx fs))(hf:fs.length<2)(s:∀b o,H b=some o→b≠p→H' b=some o):qj A H' a ls:=by
 obtain⟨as,h,q⟩:=x
 exact⟨as,s _ _ h (i0 h hp (fun z=>by cases z)),Paired.kx q fun _ _ z=>z.off hp hf s⟩
theorem zM.off{H H':Hp}{p C dx a:Addr}{fs:List (Str×V)}{ns:List Nm}(x:zM H a ns)(hp:H p=some (.ins C dx fs))(s:∀b o,H b=some o→b≠p→H' b=some o):zM H' a ns:=by
 obtain⟨as,h,q⟩:=x
 exact⟨as,s _ _ h (i0 h hp (fun z=>by cases z)),Paired.kx q fun _ _ z=>z.off hp s⟩
theorem nS.off{H H':Hp}{p C dx a:Addr}{fs:List (Str×V)}{pt:Pt}(x:nS A H a pt)(hp:H p=some (.ins C dx fs))(hf:fs.length<2)(s:∀b o,H b=some o→b≠p→H' b=some o):nS A H' a pt:=by
 obtain⟨Wi,vf,pu,cu,vo,h,h1,h2,h3,h4⟩:=x
 have:a≠p:=fun z=>by
   rw[z,hp] at h
   have e:=aat h
   injection e with _ _ e
   rw[e] at hf
   exact absurd hf (by unfold Ly;simp)
 exact⟨Wi,vf,pu,cu,vo,s _ _ h this,h1,h2.off hp hf s,h3.off hp s,h4⟩
theorem ye.off{H H':Hp}{p C dx a:Addr}{fs:List (Str×V)}{ps:List Pt}(x:ye A H a ps)(hp:H p=some (.ins C dx fs))(hf:fs.length<2)(s:∀b o,H b=some o→b≠p→H' b=some o):ye A H' a ps:=by
 obtain⟨as,h,q⟩:=x
 exact⟨as,s _ _ h (i0 h hp (fun z=>by cases z)),Paired.kx q fun _ _ z=>z.off hp hf s⟩
theorem Ct.off{H H':Hp}{p C dx a:Addr}{fs:List (Str×V)}{ls:List Ln}(x:Ct H a ls)(hp:H p=some (.ins C dx fs))(s:∀b o,H b=some o→b≠p→H' b=some o):Ct H' a ls:=by
 obtain⟨kvs,e1,e2⟩:=x
 refine⟨kvs,s _ _ e1 (i0 e1 hp (fun z=>by cases z)),fun n hn=>?_⟩
 obtain⟨b,dk,z1,z2,z3⟩:=e2 n hn
 exact⟨b,dk,z1,s _ _ z2 (i0 z2 hp (fun z=>by cases z)),z3⟩
theorem AQ(T:Txt mg)(O:Ok K mg A):ie P w K mg base lZ 3 A.me A.pA ["self","patches","file"] (LF A):=by
 have EF:=Cu (P:=P) (w:=w) (base:=base) T O
 have sv:=vt (P:=P) (w:=w) (base:=base) T O
 have wK:=vw (P:=P) (w:=w) (base:=base) T O
 have Kq:=HG (P:=P) (w:=w) (base:=base) T O
 refine O.rQ.f.ok uP (fun vs H Q E h=>?_) (fun jd A0 outer s H vs Q E hr h=>?_)
 · obtain⟨p,dx,a,ps,f,rfl,_⟩:=h
   rfl
 · obtain⟨p,dx,a,ps,f,rfl,hp,ha,sm,nd,cl,tp,q⟩:=h
   have Se:wC (g_ ps f).length:=aac (qk ps f) sm.iD
   have yj:=lG ps f
   refine⟨_,(c_ (ly (pv 0) (pc0 O.Bo EF hr (a_ (pc0 O.wq sv hr (a_ (pv 1) (a_ (pv 2) d_))) d_)) rfl)
     (e_ (ly (pv 0) (pc0 O.JI Kq hr (a_ (pc0 O.rO wK hr (a_ (pv 1) (a_ (pv 2) d_))) (a_ (gz (pv 0) rfl) d_))) rfl))),?_⟩
   refine⟨_,rfl,_,rfl,a,ps,f,rfl,ha,sm,fun l1 H1 s1 TH Sf=>?_⟩
   refine⟨l1,_,rfl,Sf,Se,nd,cl,tp,fun ah H2 s2 TJ Sg=>?_⟩
   have Wj:gb H H2:=s1.trans s2
   have yi:=Wj p _ hp
   refine⟨_,rfl,p,A.hU,dx,_,rfl,yi,O.jQ,O.jt,(by show 0<1000;decide),?_⟩
   have s3:∀b o,H2 b=some o→b≠p→(upd H2 p (.ins A.hU dx (jx "ahead" (.ref ah) []))) b=some o:=fun b o e n=>by rw[de n];exact e
   have ha3:=(ha.same Wj).off yi (by decide) s3
   have Sh:=Sg.off yi s3
   refine⟨_,rfl,_,rfl,a,ps,f,rfl,ha3,sm,fun st H4 s4 TK Si=>?_⟩
   have RY:H4 p=some (.ins A.hU dx (jx "ahead" (.ref ah) [])):=s4 p _ b_
   refine⟨_,rfl,p,A.hU,dx,_,_,rfl,RY,O.jQ,O.jt,HH ah,st,ah,nu ps f,g_ ps f,rfl,Si,Sh.same s4,aac yj.length_le Se,(yj.map _).nodup nd,fun l hl=>aab (yj.subset hl),tp,fun l H5 s5 TL Sj=>?_⟩
   have Wk:=s5 p _ RY
   refine⟨_,rfl,p,A.hU,dx,_,rfl,Wk,O.jQ,O.iq,(by show 1<1000;decide),?_⟩
   have s6:∀b o,H5 b=some o→b≠p→(upd H5 p (.ins A.hU dx (jx "lines" (.ref l) (jx "ahead" (.ref ah) [])))) b=some o:=fun b o e n=>by rw[de n];exact e
   refine q _ (fun b o hb nb=>?_) ⟨dx,ah,l,Eq.trans b_ (congrArg (fun l=>some (HO.ins A.hU dx l)) (N3 ah l)),?_,?_⟩
   · rw[de nb]
     refine s5 b o (s4 b o ?_)
     rw[de nb]
     exact Wj b o hb
   · exact((Sh.same s4).same s5).off Wk s6
   · exact Sj.off Wk (by show 1<2;decide) s6
open Classical in
def U2(A:Ad):Sp:=fun vs H Q _=>∃(p:Addr)(al row:List Ln)(i j:Nat)(a b:Ln),vs=[.ref p,.int i,.int j]∧FA A H p al row∧row[i]?=some a∧row[j]?=some b∧b.nm∈al.map (·.nm)∧Q (.bl (decide (Ah al a.nm b.nm))) H
open Classical in
theorem Eo(T:Txt mg)(O:Ok K mg A):ie P w K mg base lZ 1 A.pB A.pC ["self","first","second"] (U2 A):=by
 refine O.rR.f.ok uQ (fun vs H Q E h=>?_) (fun jd A0 outer s H vs Q E hr h=>?_)
 · obtain⟨p,al,row,i,j,a,b,rfl,_⟩:=h
   rfl
 · obtain⟨p,al,row,i,j,x,y,rfl,⟨dx,ah,l,h1,⟨kh,h2,h3⟩,⟨as,h4,h5⟩⟩,hi,hj,hy,q⟩:=h
   obtain⟨b,hb,dxb,vn,vu,vl,g1,⟨t,rfl,g2⟩,g3,g4⟩:=lj h5 hi
   obtain⟨c,hc,dxc,vn',vu',vl',k1,⟨t',rfl,k2⟩,k3,k4⟩:=lj h5 hj
   obtain⟨e,dk,z1,z2,z3⟩:=h3 y.nm hy
   have TM:(as.map V.ref)[i]?=some (.ref b):=by rw[aah,hb];rfl
   have hcj:(as.map V.ref)[j]?=some (.ref c):=by rw[aah,hc];rfl
   refine⟨_,(e_ (gG (M5 (oJ (by exact ic hr) (gz (iA h_ (gz (pv 0) rfl) (pv 1) (fun _ _=>rfl)) rfl) (iU (by exact ic hr) (gz (pv 0) rfl) (gz (iA h_ (gz (pv 0) rfl) (pv 2) (fun _ _=>rfl)) rfl) (fun _ _=>rfl)))))),?_⟩
   refine⟨_,rfl,p,A.hU,dx,_,_,rfl,h1,O.jQ,O.iq,ll ah l,_,rfl,l,_,_,_,rfl,rfl,hV.of h4,iB rfl TM,b,A.gH,dxb,_,_,rfl,g1,O.iK,O.gE,iW,?_⟩
   refine⟨_,rfl,p,A.hU,dx,_,_,rfl,h1,O.jQ,O.jt,Fz ah l,_,rfl,p,A.hU,dx,_,_,rfl,h1,O.jQ,O.iq,ll ah l,_,rfl,l,_,_,_,rfl,rfl,hV.of h4,iB rfl hcj,c,A.gH,dxc,_,_,rfl,k1,O.iK,O.gE,iW,ah,.ref e,rfl,?_,e,_,rfl,i3.t (k:=nk x.nm) z2 g2,?_⟩
   · have:=i3.t (k:=nk y.nm) h2 k2
     rw[z1] at this
     exact this
   · have e2:(iL dk (nk x.nm)).isSome=decide (Ah al x.nm y.nm):=by
       rw[abe,decide_eq_true_iff];exact z3 x.nm
     rw[e2]
     exact q
def U3(A:Ad):Sp:=fun vs H Q _=>∃(p:Addr)(al row:List Ln),vs=[.ref p]∧FA A H p al row∧(∀l∈row,l.nm∈al.map (·.nm))∧wC row.length∧∀r H' vs,gb H H'→H r=none→H' r=some (.lst vs)→iX H' (kR (Ah al) row) vs→Q (.ref r) H'
open Classical in
noncomputable def wD(lt:Nm→Nm→Prop)(row:List Ln)(i m:Nat):List (Nat×Nat):=((List.range' (i+1) m).filter fun j=>decide (¬ltAt lt row i j)).map fun j=>(i,j)
noncomputable def Ep(lt:Nm→Nm→Prop)(row:List Ln)(i:Nat):List (Nat×Nat):=(List.range i).flatMap fun i=>wD lt row i (row.length-(i+1))
theorem JU(lt:Nm→Nm→Prop)(row:List Ln):Ep lt row row.length=kR lt row:=rfl
theorem By(lt:Nm→Nm→Prop)(row:List Ln)(i:Nat):Ep lt row (i+1)=Ep lt row i++wD lt row i (row.length-(i+1)):=by
 unfold Ep
 rw[abF,abk,aay,abh,aaB]
theorem HI(lt:Nm→Nm→Prop)(row:List Ln)(i m:Nat)(h:¬ltAt lt row i (i+1+m)):wD lt row i (m+1)=wD lt row i m++[(i,i+1+m)]:=by
 unfold wD
 rw[show m+1=m+1 from rfl,←List.range'_append_1 (s:=i+1) (m:=m) (n:=1),aaF,aam]
 congr 1
 show List.map _ (List.filter _ [i+1+m])=_
 rw[XW (by simpa using h)]
 rfl
theorem FC(lt:Nm→Nm→Prop)(row:List Ln)(i m:Nat)(h:ltAt lt row i (i+1+m)):wD lt row i (m+1)=wD lt row i m:=by
 unfold wD
 rw[←List.range'_append_1 (s:=i+1) (m:=m) (n:=1),aaF,aam]
 show _++List.map _ (List.filter _ [i+1+m])=_
 rw[aaf (by simpa using h)]
 simp
theorem Er(lt:Nm→Nm→Prop)(row:List Ln)(i m:Nat):(wD lt row i m).length≤m:=by
 unfold wD
 rw[RF]
 exact aac (aaH _ _) (by rw[List.length_range'];exact UU _)
theorem Es(lt:Nm→Nm→Prop)(row:List Ln):∀i,(Ep lt row i).length≤i*row.length
 | 0=>aaD _
 | i+1=>by
   rw[By,VO,Nat.succ_mul]
   have:=Es lt row i
   have:=Er lt row i (row.length-(i+1))
   omega
open Classical in
theorem sh(T:Txt mg)(O:Ok K mg A):ie P w K mg base lZ 2 A.mW A.mX ["self"] (U3 A):=by
 have wL:=Eo (P:=P) (w:=w) (base:=base) T O
 refine O.jC.f.ok jz (fun vs H Q E h=>?_) (fun jd A0 outer s H vs Q E hr h=>?_)
 · obtain⟨p,al,row,rfl,_⟩:=h
   rfl
 · obtain⟨p,al,row,rfl,S,Wl,jK,q⟩:=h
   obtain⟨dx,ah,l,h1,h2,⟨as,h4,h5⟩⟩:=id S
   have hlen:=Paired.length h5
   have yl:row.length≤4000:=jK
   have sz:sizeLine=16777216:=aav
   refine⟨_,(c_ (gw (i:=1) jz.nd rfl (Or.inl rfl) (iC d_))
     (c_ (iO PassesOwn.never rfl (ke rfl T.lM (a_ (gD gr (by rfl) T.jV aas (a_ (gz (pv 0) rfl) d_)) d_)) (gA (i:=2) jz.nd rfl (Or.inl rfl)) (e_ (iO PassesOwn.never rfl (A4 rfl T.lM (a_ (gp iJ (pv 2) f_) (a_ (gD gr (by rfl) T.jV aas (a_ (gz (pv 0) rfl) d_)) d_))) (gA (i:=3) jz.nd rfl (Or.inl rfl)) (e_ (iw (yG (ET (pm0 (pv 0) O.jQ O.rR wL hr (a_ (pv 2) (a_ (pv 3) d_))))) (e_ (hZ (qy aaG aaS aaT kF (pv 1) (a_ (BO (a_ (pv 2) (a_ (pv 3) d_))) d_)))) hG)))))
     (e_ (gG (pv 1))))),?_⟩
   refine⟨L2.jK,fun r sx=>?_⟩
   have s1:gb H (upd H r (.lst [])):=(gb.refl H).new sx
   have el:((as.map V.ref).length:Int)=(row.length:Int):=by rw[RF,hlen]
   refine⟨_,rfl,p,A.hU,dx,_,_,rfl,s1 _ _ h1,O.jQ,O.iq,ll ah l,l,_,rfl,.inl (hV.of (s1 _ _ h4)),_,rfl,by omega,by omega,?_⟩
   rw[el,abq]
   refine lY (fun i σ H2=>∃(v2 v3:Option V)(vs:List V),σ=[some (.ref p),some (.ref r),v2,v3]∧gb H H2∧H2 r=some (.lst vs)∧iX H2 (Ep (Ah al) row i) vs) ⟨none,none,[],rfl,s1,b_,.nil⟩ ?_ ?_
   · rintro i σ H2 hi ⟨v2,v3,vs,rfl,s2,k1,k2⟩
     rw[show(0:Int)+(i:Int)=(i:Int) by omega]
     refine⟨_,rfl,_,_,rfl,rfl,_,rfl,p,A.hU,dx,_,_,rfl,s2 _ _ h1,O.jQ,O.iq,ll ah l,l,_,rfl,.inl (hV.of (s2 _ _ h4)),_,_,rfl,⟨by omega,by omega,by omega,by omega⟩,?_⟩
     rw[el,show((row.length:Int)-((i:Int)+1)).toNat=row.length-(i+1) by omega]
     refine lY (fun m σ H3=>∃(v3:Option V)(vs:List V),σ=[some (.ref p),some (.ref r),some (.int i),v3]∧gb H H3∧H3 r=some (.lst vs)∧iX H3 (Ep (Ah al) row i++wD (Ah al) row i m) vs) ⟨v3,vs,rfl,s2,k1,by unfold wD;simpa using k2⟩ ?_ ?_
     · rintro m σ H3 hm ⟨v3,vs,rfl,s3,k1,k2⟩
       rw[show(i:Int)+1+(m:Int)=((i+1+m:Nat):Int) by omega]
       have hj:i+1+m<row.length:=by omega
       have ei:row[i]?=some row[i]:=UR hi
       have ej:row[i+1+m]?=some row[i+1+m]:=UR hj
       have yk:vs.length=(Ep (Ah al) row i++wD (Ah al) row i m).length:=(Paired.length k2).symm
       have Sk:=Es (Ah al) row i
       have OW:=Er (Ah al) row i m
       have hb3:i*row.length≤4000*4000:=Nat.mul_le_mul (by omega) yl
       rw[VO] at yk
       refine⟨_,rfl,p,dx,_,rfl,s3 _ _ h1,N4 ah l,_,rfl,_,rfl,p,al,row,i,i+1+m,_,_,rfl,S.same s3,ei,ej,Wl _ (List.getElem_mem hj),_,rfl,?_⟩
       have lu:ltAt (Ah al) row i (i+1+m)↔Ah al row[i].nm row[i+1+m].nm:=by
         constructor
         · rintro⟨a,b,ha,hb,z⟩
           rw[ei] at ha;rw[ej] at hb;cases ha;cases hb
           exact z
         · exact fun z=>⟨_,_,ei,ej,z⟩
       by_cases hc:Ah al row[i].nm row[i+1+m].nm
       · rw[UW hc]
         exact k7 ⟨_,vs,rfl,s3,k1,by rw[FC _ _ _ _ (lu.mpr hc)];exact k2⟩
       · rw[XX hc]
         refine mD ?_
         refine⟨_,rfl,.inl ⟨rfl,_,hV.of k1⟩,_,rfl,_,rfl,L2.jK,fun t ht=>?_⟩
         have YR:r≠t:=gg k1 ht
         refine⟨r,vs,_,rfl,rfl,by rw[de YR];exact k1,by omega,?_⟩
         refine⟨_,vs++[.ref t],rfl,(s3.new ht).upd sx,b_,?_⟩
         rw[HI _ _ _ _ (fun z=>hc (lu.mp z)),←aaK]
         refine il (Paired.kx k2 fun a v ⟨b,e,hb⟩=>⟨b,e,?_⟩) ⟨t,rfl,?_⟩
         · rw[de (i0 hb k1 (by intro z;cases z)),de (gg hb ht)];exact hb
         · rw[de YR.symm,b_]
     · rintro σ H3 ⟨v3,vs,rfl,s3,k1,k2⟩
       exact⟨_,_,vs,rfl,s3,k1,by rw[By];exact k2⟩
   · rintro σ H2 ⟨v2,v3,vs,rfl,s2,k1,k2⟩
     exact⟨_,rfl,q r H2 vs s2 sx k1 (by rw[JU] at k2;exact k2)⟩
end
theorem Fv.upd{H:Hp}{v:V}{n:Option Nm}{x:Addr}{o o':HO}(h:Fv H v n)(hx:H x=some o')(ht:∀xs,o'≠.tup xs):Fv (L2.upd H x o) v n:=by
 cases n with
 | none=>exact h
 | some n=>exact lr.upd h hx ht
theorem mR.upd{A:Ad}{H:Hp}{a:Addr}{l:Ln}{x:Addr}{o o':HO}(h:mR A H a l)(hx:H x=some o')(ht:∀xs,o'≠.tup xs)(hi:∀C dx fs,o'≠.ins C dx fs):mR A (L2.upd H x o) a l:=by
 obtain⟨dx,vn,vu,vl,h0,h1,h2,h3⟩:=h
 exact⟨dx,vn,vu,vl,by rw[de (i0 h0 hx (fun z=>hi _ _ _ z.symm))];exact h0,h1.upd hx ht,h2.upd hx ht,h3.upd hx ht⟩
theorem zP{A:Ad}{H:Hp}{as:List Addr}{ls:List Ln}(p:Paired (mR A H) as ls){i:Nat}{l:Ln}(h:ls[i]?=some l):∃b,(as.map V.ref)[i]?=some (.ref b)∧mR A H b l:=by
 obtain⟨b,hb,z⟩:=lj p h
 exact⟨b,by rw[aah,hb];rfl,z⟩
section
variable{P:Program}{w:World}{K:PySem.W.Frag}{mg:Str→Option Value}{base:Heap}{A:Ad}
def AR(p:Pt)(k:Nat):List (Option Nm):=p.j4.map some++(p.iD.take k).flatMap fun l=>[l.up,l.lo]
theorem named_eq(p:Pt):named p=(AR p p.iD.length).filterMap id:=by
 unfold named AR
 rw[aaj,abn,List.filterMap_map]
 congr 1
 · induction p.j4 with
   | nil=>rfl
   | cons x r ih=>rw[aba];show _=x::_;rw[←ih]
 · induction p.iD with
   | nil=>rfl
   | cons x r ih=>
     rw[aay,aay,abn,ih]
     congr 1
     cases x.up<;>cases x.lo<;>rfl
theorem zQ(p:Pt)(k:Nat):(AR p k).length≤p.j4.length+2*k:=by
 unfold AR
 rw[VO,RF]
 have:∀(ls:List Ln),(ls.flatMap fun l=>[l.up,l.lo]).length=2*ls.length:=fun ls=>by
   induction ls with
   | nil=>rfl
   | cons x r ih=>rw[aay,VO,ih];simp only [XT,List.length_nil];omega
 rw[this,aau]
 omega
def LG(A:Ad):Sp:=fun vs H Q _=>∃(a:Addr)(p:Pt),vs=[.ref a]∧nS A H a p∧wC p.iD.length∧wC p.j4.length∧∀r H',gb H H'→H r=none→zM H' r (named p)→Q (.ref r) H'
theorem vA(T:Txt mg)(O:Ok K mg A):ie P w K mg base lZ 1 A.ph A.pj ["patch"] (LG A):=by
 refine O.rN.f.ok kq (fun vs H Q E h=>?_) (fun jd A0 outer s H vs Q E hr h=>?_)
 · obtain⟨a,p,rfl,_⟩:=h
   rfl
 · obtain⟨a,p,rfl,⟨dx,vf,pu,cu,vo,g1,g2,⟨as,g3,RN⟩,⟨cs,g4,PB⟩,g5⟩,FT,EG,q⟩:=h
   have hlen:=Paired.length RN
   have MH:=Paired.length PB
   have MO:p.iD.length≤4000:=FT
   have Kr:p.j4.length≤4000:=EG
   have sz:sizeLine=16777216:=aav
   refine⟨_,(c_ (gw (i:=1) kq.nd rfl (Or.inl rfl) (sF BS (by rfl) T.zu abx (a_ (gz (pv 0) rfl) d_)))
     (c_ (iO PassesOwn.never rfl (iz (gz (pv 0) rfl)) (gA (i:=2) kq.nd rfl (Or.inl rfl)) (c_ (hZ (qy aaG aaS aaT kF (pv 1) (a_ (gz (pv 2) rfl) d_)))
     (e_ (hZ (qy aaG aaS aaT kF (pv 1) (a_ (gz (pv 2) rfl) d_))))))
     (e_ (gG (yV pd (fU kJ).names [3] rfl (iz (pv 1)) rfl (by decide+kernel) (fun _ _ _ _=>(gA (i:=3) kq.nd rfl (Or.inl rfl))) (fun _ _ _ _=>⟨_,pR (jq (sE (pv 3))),by(try simp only [ir]);rfl⟩) (fun _ _ _ _=>⟨_,(pv 3),by(try simp only [ir]);rfl⟩)))))),?_⟩
   refine⟨_,rfl,a,A.hE,dx,_,_,rfl,g1,O.jl,O.jM,Eh,cu,cs,rfl,.inl (hV.of g4),fun l hl=>?_⟩
   have s1:gb H (upd H l (.lst cs)):=(gb.refl H).new hl
   refine⟨_,rfl,a,A.hE,dx,_,_,rfl,s1 _ _ g1,O.jl,O.jL,Eg,pu,rfl,⟨_,hV.of (s1 _ _ g3)⟩,jr (K:=K) (a:=pu) (xs:=as.map V.ref) (fun i σ H2=>∃(v:Option V)(xs:List V),σ=[some (.ref a),some (.ref l),v,none]∧gb H H2∧H2 l=some (.lst xs)∧Paired (Fv H) xs (AR p i))
     ⟨none,cs,rfl,s1,b_,?_⟩ (fun i σ H2 _ ⟨_,_,_,s2,_⟩=>hV.of (s2 _ _ g3)) ?_ ?_⟩
   · unfold AR
     rw[abj,abh,aaB]
     clear MH Kr EG q g4 s1
     generalize p.j4=ms at PB
     induction PB with
     | nil=>exact .nil
     | cons f t ih=>exact .cons f ih
   · rintro i v σ H2 hx ⟨v0,xs,rfl,s2,h1,h2⟩
     obtain⟨b,hb,rfl⟩:=j7 hx
     obtain⟨ln,yk,PQ,vn,vu,vl,k1,k2,k3,k4⟩:=iy RN hb
     have hi:i<p.iD.length:=(RL.mp yk).1
     have hxl:xs.length≤p.j4.length+2*i:=by rw[Paired.length h2];exact zQ p i
     have e:AR p (i+1)=AR p i++[ln.up]++[ln.lo]:=by
       unfold AR
       rw[take_snoc yk,abk,aay,abh,aaK,aaK]
       rfl
     refine⟨_,rfl,.inl ⟨rfl,_,hV.of h1⟩,_,rfl,b,A.gH,PQ,_,_,rfl,s2 _ _ k1,O.iK,O.iE,Fw,l,_,_,rfl,rfl,h1,by omega,?_⟩
     have s3:gb H (upd H2 l (.lst (xs++[vu]))):=s2.upd hl
     refine⟨_,rfl,.inl ⟨rfl,_,hV.of b_⟩,_,rfl,b,A.gH,PQ,_,_,rfl,s3 _ _ k1,O.iK,O.iF,Fx,l,_,_,rfl,rfl,b_,by rw[VO];show xs.length+1<_;omega,?_⟩
     refine⟨_,_,rfl,s3.upd hl,b_,?_⟩
     rw[e]
     exact il (il h2 k3) k4
   · rintro σ H2 ⟨v0,xs,rfl,s2,h1,h2⟩
     have e0:(as.map V.ref).length=p.iD.length:=by rw[RF,hlen]
     rw[e0] at h2
     have hxl:xs.length≤p.j4.length+2*p.iD.length:=by rw[Paired.length h2];exact zQ p _
     refine⟨_,rfl,l,rfl,⟨_,hV.of h1⟩,j2 (K:=K) (a:=l) (xs:=xs) (by omega) (fun i ys σ H4=>∃(v3:Option V),σ=[some (.ref a),some (.ref l),v0,v3]∧H4=H2∧ys.length≤i∧Paired (lr H) ys (((AR p p.iD.length).take i).filterMap id))
       ⟨none,rfl,rfl,UU _,.nil⟩ (fun i ys σ H4 _ ⟨_,_,e,e3,_⟩=>by subst e;exact⟨hV.of h1,e3⟩) ?_ ?_⟩
     · rintro i v ys σ H4 hx ⟨v3,rfl,rfl,e3,h6⟩
       obtain⟨o,ho,hv⟩:=iy h2 hx
       refine⟨_,rfl,_,rfl,?_⟩
       rw[take_snoc ho,abn]
       cases o with
       | none=>
         rw[show v=V.jv from hv]
         exact⟨_,rfl,rfl,by omega,by simpa using h6⟩
       | some m=>
         obtain⟨t,rfl,ht⟩:=(show lr H v m from hv)
         exact⟨_,rfl,_,rfl,rfl,MG,il h6 ⟨t,rfl,ht⟩⟩
     · rintro ys σ H4 ⟨v3,rfl,rfl,e3,h6⟩ r sx
       rw[Paired.length h2,aaj,←named_eq] at h6
       have s5:=s2.new (o:=.lst ys) sx
       exact q r _ s5 (s2.free sx) ⟨ys,b_,Paired.kx h6 fun _ _ z=>z.same s5⟩
def N5(A:Ad):Sp:=fun vs H Q _=>∃(a:Addr)(p:Pt),vs=[.ref a]∧nS A H a p∧wC p.iD.length∧wC p.j4.length∧∀r H',gb H H'→H r=none→H' r=some (.lst (gh (iH p)))→Q (.ref r) H'
theorem Bz(p:Pt):(named p).length≤p.j4.length+2*p.iD.length:=by
 rw[named_eq]
 exact aac (List.length_filterMap_le _ _) (zQ p _)
theorem si(T:Txt mg)(O:Ok K mg A):ie P w K mg base lZ 2 A.mU A.mV ["patch"] (N5 A):=by
 have wM:=vA (P:=P) (w:=w) (base:=base) T O
 refine O.oF.f.ok kB (fun vs H Q E h=>?_) (fun jd A0 outer s H vs Q E hr h=>?_)
 · obtain⟨a,p,rfl,_⟩:=h
   rfl
 · obtain⟨a,p,rfl,pa,FT,EG,q⟩:=h
   obtain⟨dx,vf,pu,cu,vo,g1,g2,g3,g4,g5⟩:=id pa
   have MO:p.iD.length≤4000:=FT
   have Kr:p.j4.length≤4000:=EG
   have sz:sizeLine=16777216:=aav
   have MM:=Bz p
   refine⟨_,(c_ (BY (j:=1) mT (fU jP).names [2] kB.nd rfl rfl rfl (iz (pc0 O.rN wM hr (a_ (pv 0) d_))) rfl (by decide+kernel) (fun _ _ _ _=>(gA (i:=2) kB.nd rfl (Or.inl rfl))) (fun _ _ _ _=>⟨_,pR (ib Mm (iA yO (pv 2) f_ (fun _ _=>rfl)) (gz (pv 0) rfl) (ij _)),by(try simp only [ir]);rfl⟩) (fun _ _ _ _=>⟨_,iA yO (pv 2) f_ (fun _ _=>rfl),by(try simp only [ir]);rfl⟩))
     (c_ (iw (jq (sE (gz (pv 0) rfl))) (e_ (hZ (qy aaG aaS aaT kF (pv 1) (a_ (gz (pv 0) rfl) d_)))) hG)
     (e_ (gG (pv 1))))),?_⟩
   refine⟨_,rfl,a,p,rfl,pa,FT,EG,fun n H1 s1 hn0 ⟨ns,YS,OD⟩=>?_⟩
   have Wm:=Paired.length OD
   refine⟨n,rfl,⟨_,hV.of YS⟩,j2 (K:=K) (a:=n) (xs:=ns) (by omega) (fun i ys σ H4=>∃(v2:Option V)(zs:List Str),σ=[some (.ref a),none,v2]∧H4=H1∧ys=gh zs∧zs.length≤i∧zs=(((named p).take i).filter fun n=>n.1≠p.nm).map (·.1))
     ⟨none,[],rfl,rfl,rfl,UU _,rfl⟩ (fun i ys σ H4 _ ⟨_,zs,_,e,e2,e3,_⟩=>by subst e e2;exact⟨hV.of YS,by rw[RF];exact e3⟩) ?_ ?_⟩
   · rintro i v ys σ H4 hx ⟨v2,zs,rfl,rfl,rfl,e3,e4⟩
     obtain⟨m,hm,t,rfl,ht⟩:=iy OD hx
     have YT:E6 ((nk m).map kV) 0=some (V.str m.1):=iB (j:=0) rfl rfl
     refine⟨_,rfl,t,_,0,_,rfl,rfl,vK.of ht,YT,_,rfl,a,A.hE,dx,_,_,rfl,s1 _ _ g1,O.jl,O.iT,rZ,rfl,_,rfl,?_⟩
     have ed:decide (V.str m.1=V.str p.nm)=decide (m.1=p.nm):=by
       by_cases e:m.1=p.nm
       · rw[UW e,UW (congrArg V.str e)]
       · rw[XX e,XX fun z=>e (V.str.inj z)]
     rw[ed]
     subst e4
     by_cases e:m.1=p.nm
     · rw[UW e]
       refine k7 ⟨_,_,rfl,rfl,rfl,by omega,?_⟩
       rw[take_snoc hm,aaF,aaf (by simpa using e)]
       simp
     · rw[XX e]
       refine mD ⟨_,rfl,t,_,0,_,rfl,rfl,vK.of ht,YT,_,_,rfl,rfl,jo _ _,by rw[VO];show _+1≤_;omega,?_⟩
       rw[take_snoc hm,aaF,XW (by simpa using e)]
       simp
   · rintro ys σ H4 ⟨v2,zs,rfl,rfl,rfl,e3,e4⟩ r sx
     rw[Wm,aaj] at e4
     have s5:=s1.new (o:=.lst (gh zs)) sx
     refine⟨_,rfl,a,A.hE,dx,_,_,rfl,s5 _ _ g1,O.jl,O.iV,sO,_,rfl,?_⟩
     unfold iH at q
     rw[←e4] at q
     cases ho:p.other with
     | none=>
       rw[ho] at g5 q
       rw[show vo=V.jv from g5]
       exact⟨_,rfl,q r _ s5 (s1.free sx) (by rw[b_];simp)⟩
     | some x=>
       rw[ho] at g5 q
       rw[show vo=V.str x from g5] at g1 ⊢
       refine⟨_,rfl,.inl ⟨rfl,_,hV.of b_⟩,_,rfl,a,A.hE,dx,_,_,rfl,s5 _ _ g1,O.jl,O.iV,sO,r,_,_,rfl,rfl,b_,by rw[RF];omega,?_⟩
       exact⟨_,rfl,q r _ (s5.upd (s1.free sx)) (s1.free sx) (by rw[b_];show _=some (HO.lst (gh (zs++[x])));rw[←jo])⟩
end
def QT(H:Hp)(a:Addr)(kn:Nat→Option Nm):Prop:=∃kvs:List (Key×V),H a=some (.dK kvs)∧∀s:Nat,match kn s with|some m=>∃v,iL kvs (Sum.inl (s:Int))=some v∧lr H v m|none=>iL kvs (Sum.inl (s:Int))=none
section
variable{P:Program}{w:World}{K:PySem.W.Frag}{mg:Str→Option Value}{base:Heap}{A:Ad}
def U4:Sp:=fun vs H Q _=>∃(a:Addr)(n:Nat)(kn:Nat→Option Nm),vs=[.ref a,.int n]∧QT H a kn∧n≤4000∧∀p H' xs,gb H H'→H p=none→H' p=some (.lst xs)→xs.length=n→(∀i v,xs[i]?=some v→Fv H v (Lu kn (n-1-i) i))→Q (.ref p) H'
theorem zR(T:Txt mg)(O:Ok K mg A):ie P w K mg base lZ 1 A.tD A.tE ["kept_names","size"] U4:=by
 refine O.xS.f.ok nG (fun vs H Q E h=>?_) (fun jd A0 outer s H vs Q E hr h=>?_)
 · obtain⟨a,n,kn,rfl,_⟩:=h
   rfl
 · obtain⟨a,n,kn,rfl,⟨kvs,h1,h2⟩,hn,q⟩:=h
   have sz:sizeLine=16777216:=aav
   refine⟨_,(c_ (gw (i:=2) nG.nd rfl (Or.inl rfl) (gp Fb (iC (a_ tQ d_)) (pv 1)))
     (c_ (iO PassesOwn.never rfl (vS rfl T.lM (a_ (gp BL (pv 1) f_) (a_ (wU qU f_) (a_ (wU qU f_) d_)))) (gA (i:=3) nG.nd rfl (Or.inl rfl)) (e_ (BK (IJ (by exact ic hr) (pv 0) (gp iJ (pv 3) f_) (iA h_ (pv 2) (gp iJ (pv 3) f_) (fun _ _=>rfl)) ⟨rfl,rfl,rfl,rfl⟩) (BJ (pv 2) (pv 3) set_list))))
     (e_ (gG (pv 2))))),?_⟩
   refine⟨L2.jK,fun l hl=>?_⟩
   refine⟨_,rfl,l,_,_,rfl,rfl,b_,by omega,by omega,by simp;omega,fun p hp=>?_⟩
   have oW:p≠l:=fun z=>by rw[z,b_] at hp;cases hp
   have FR:H p=none:=by rw[de oW] at hp;exact hp
   have e0:(List.replicate (n:Int).toNat [V.jv]).flatten=List.replicate n V.jv:=by
     rw[abq]
     clear q hn
     induction n with
     | zero=>rfl
     | succ n ih=>rw[aa2,abr,ih,aa2];rfl
   rw[e0]
   have s1:gb H (upd (upd H l (.lst [V.jv])) p (.lst (List.replicate n V.jv))):=((gb.refl H).upd hl).upd FR
   refine⟨_,rfl,_,_,rfl,rfl,_,rfl,_,rfl,_,_,rfl,⟨by omega,by omega,by omega,by omega⟩,?_⟩
   rw[show((n:Int)-2 - -1).toNat=n-1 by omega]
   refine tU (fun m σ H2=>∃(v:Option V)(xs:List V),σ=[some (.ref a),some (.int n),some (.ref p),v]∧gb H H2∧H2 p=some (.lst xs)∧xs.length=n∧∀i v,xs[i]?=some v→n-1≤i+m→Fv H v (Lu kn (n-1-i) i)) ⟨none,_,rfl,s1,b_,by simp,fun i v hv hi=>?_⟩ ?_ ?_
   · have lu:i<n:=by have:=(RL.mp hv).1;simpa using this
     have:v=V.jv:=by
       have:=VI hv
       exact List.eq_of_mem_replicate this
     rw[this,show n-1-i=0 by omega]
     exact rfl
   · rintro m σ H2 hm ⟨v0,xs,rfl,s2,k1,k2,k3⟩
     obtain⟨j,hj⟩:∃j,j+m+2=n:=⟨n-2-m,by omega⟩
     rw[show(n:Int)-2+(m:Int) * -1=(j:Int) by omega]
     have hx:xs[j+1]?=some xs[j+1]:=UR (by omega)
     refine⟨_,rfl,a,rfl,.inl ⟨_,.inl (s2 _ _ h1)⟩,_,rfl,_,_,rfl,rfl,_,rfl,_,rfl,_,_,rfl,rfl,p,_,_,_,rfl,rfl,hV.of k1,iB (j:=j+1) (by omega) hx,_,i3.k (k:=Sum.inl ((j:Int)+1)) (s2 _ _ h1),?_⟩
     refine⟨_,rfl,_,rfl,p,_,_,j,rfl,rfl,k1,B2 rfl (by omega),?_⟩
     refine⟨_,_,rfl,s2.upd FR,b_,by rw[abM];exact k2,fun i v hv hi=>?_⟩
     by_cases e:i=j
     · subst e
       rw[aaZ (by omega)] at hv
       have hv:=aat hv
       rw[←hv,show n-1-i=(n-1-(i+1))+1 by omega]
       unfold Lu
       have h3:=h2 (i+1)
       rw[show((i+1:Nat):Int)=(i:Int)+1 by omega] at h3
       cases hk:kn (i+1) with
       | none=>
         rw[hk] at h3
         rw[h3]
         exact k3 (i+1) _ hx (by omega)
       | some mm=>
         rw[hk] at h3
         obtain⟨u,z1,z2⟩:=h3
         rw[z1]
         exact z2
     · rw[aa5 (fun z=>e z.symm)] at hv
       exact k3 i v hv (by omega)
   · rintro σ H2 ⟨v0,xs,rfl,s2,k1,k2,k3⟩
     exact⟨_,rfl,q p H2 xs s2 FR k1 k2 fun i v hv=>k3 i v hv (by omega)⟩
def U5(K:PySem.W.Frag)(A:Ad):Sp:=fun vs H Q _=>∃(x:Str)(t a:Addr)(texts:List Str)(kn:Nat→Option Nm),vs=[.str x,.ref t,.ref a]∧hV K H t (gh texts)∧(∀H',gb H H'→hV K H' t (gh texts))∧QT H a kn∧texts.length≤4000∧∀p H',gb H H'→H p=none→qj A H' p (kA x texts kn)→Q (.ref p) H'
theorem CA(T:Txt mg)(O:Ok K mg A):ie P w K mg base lZ 3 A.xp A.xq ["patch","texts","kept_names"] (U5 K A):=by
 have A2:=zR (P:=P) (w:=w) (base:=base) T O
 have ym:=Cz (P:=P) (w:=w) (base:=base) T O
 refine O.Bp.f.ok jA (fun vs H Q E h=>?_) (fun jd A0 outer s H vs Q E hr h=>?_)
 · obtain⟨x,t,a,texts,kn,rfl,_⟩:=h
   rfl
 · obtain⟨x,t,a,texts,kn,rfl,_,ht,YU,hn,q⟩:=h
   have sz:sizeLine=16777216:=aav
   have et:((gh texts).length:Int)=(texts.length:Int):=by simp
   obtain⟨kvs,h1,h2⟩:=id YU
   refine⟨_,(c_ (gw (i:=3) jA.nd rfl (Or.inl rfl) (pc0 O.xS A2 hr (a_ (pv 2) (a_ (gD gr (by rfl) T.jV aas (a_ (pv 1) d_)) d_))))
     (c_ (gw (i:=4) jA.nd rfl (Or.inl rfl) (iC d_))
     (c_ (gw (i:=5) jA.nd rfl (Or.inl rfl) tQ)
     (c_ (iO PassesOwn.never rfl (Lo rfl T.D_ (a_ (pv 1) d_)) (Ir rfl (uA (gA (i:=6) jA.nd rfl (Or.inl rfl)) (uA (gA (i:=7) jA.nd rfl (Or.inl rfl)) Ga))) (e_ (iw (jq (oJ (by exact ic hr) (pv 6) (pv 2))) (e_ (gw (i:=5) jA.nd rfl (Or.inl rfl) (iU (by exact ic hr) (pv 2) (pv 6) (fun _ _=>rfl)))) (c_ (hZ (qy aaG aaS aaT kF (pv 4) (a_ (uF O.NQ ym (hr.mono (by decide)) (by rfl) O.NR O.tJ.b .nil lg (a_ (BO (a_ (pv 0) (a_ (gD gr (by rfl) T.jV aas (a_ (pv 4) d_)) d_))) (a_ (pv 7) (a_ (pv 5) (a_ (iA h_ (pv 3) (pv 6) (fun _ _=>rfl)) d_))))) d_)))
     (e_ (gw (i:=5) jA.nd rfl (Or.inl rfl) (gz (iA h_ (pv 4) (wU qU f_) (fun _ _=>rfl)) rfl)))))))
     (e_ (gG (pv 4))))))),?_⟩
   refine⟨_,rfl,_,rfl,t,_,rfl,.inl (ht H (gb.refl H)),?_⟩
   rw[et]
   refine⟨a,texts.length,kn,rfl,YU,hn,fun b H1 bs s1 MP Sk MF R1=>?_⟩
   refine⟨L2.jK,fun l hl=>?_⟩
   have VP:H l=none:=s1.free hl
   have s2:gb H1 (upd H1 l (.lst [])):=(gb.refl H1).new hl
   refine⟨_,rfl,t,rfl,⟨_,ht _ (s1.trans s2)⟩,Jw (K:=K) (a:=t) (xs:=gh texts) (fun i σ H2=>∃(v6 v7:Option V)(vu:V)(u:Option Nm)(as:List Addr)(acc:List Ln),σ=[some (.str x),some (.ref t),some (.ref a),some (.ref b),some (.ref l),some vu,v6,v7]∧gb H1 H2∧H2 l=some (.lst (as.map V.ref))∧Paired (mR A H2) as acc∧acc.length≤i∧Fv H2 vu u∧acc++sT x kn i acc.length u (texts.drop i)=kA x texts kn)
     ⟨none,none,.jv,none,[],[],rfl,s2,b_,.nil,UU _,rfl,rfl⟩ (fun i σ H2 _ ⟨_,_,_,_,_,_,_,s3,_⟩=>ht _ (s1.trans s3)) ?_ ?_⟩
   · rintro i tv e σ H2 hx ⟨v6,v7,vu,u,as,acc,rfl,s3,k1,k2,k3,k4,k5⟩ he
     obtain⟨tx,YV,rfl⟩:=kT hx
     have hi:i<texts.length:=(RL.mp YV).1
     have hd:texts.drop i=tx::texts.drop (i+1):=by rw[aaL hi];congr 1;exact(RL.mp YV).2
     have s4:gb H2 (upd H2 e (.tup [.int i,.str tx])):=(gb.refl H2).new he
     have MQ:=s3.trans s4
     rw[hd] at k5
     unfold sT at k5
     refine⟨e,_,rfl,vK.of b_,rfl,_,_,rfl,_,_,rfl,rfl,?_⟩
     refine⟨_,rfl,_,rfl,a,_,rfl,i3.k (k:=Sum.inl (i:Int)) (MQ _ _ (s1 _ _ h1)),_,rfl,?_⟩
     have h3:=h2 i
     cases hk:kn i with
     | some m=>
       rw[hk] at h3 k5
       obtain⟨u',z1,z2⟩:=h3
       rw[z1]
       refine mD ⟨_,rfl,_,rfl,a,u',rfl,?_,?_⟩
       · have:=i3.k (k:=Sum.inl (i:Int)) (MQ _ _ (s1 _ _ h1))
         rw[z1] at this
         exact this
       · exact⟨_,_,_,some m,as,acc,rfl,MQ,s4 _ _ k1,Paired.kx k2 fun _ _ z=>z.same s4,by omega,(z2.same s1).same MQ,k5⟩
     | none=>
       rw[hk] at h3 k5
       rw[h3]
       have Wl:=Paired.length k2
       have el:((as.map V.ref).length:Int)=(acc.length:Int):=by rw[RF,Wl]
       refine k7 ⟨_,rfl,.inl ⟨rfl,_,hV.of (s4 _ _ k1)⟩,_,rfl,_,rfl,l,_,rfl,.inl (hV.of (s4 _ _ k1)),?_⟩
       rw[el]
       refine⟨L2.jK,fun nt YW=>?_⟩
       have s5:=MQ.new (o:=.tup [.str x,.int acc.length]) YW
       obtain⟨bv,YX⟩:∃bv,bs[i]?=some bv:=⟨_,UR (by omega)⟩
       refine⟨_,rfl,_,rfl,_,rfl,_,rfl,b,_,_,_,rfl,rfl,hV.of (s5 _ _ Sk),iB rfl YX,?_⟩
       intro o dx no O0 Wn
       have MR:gb (upd (upd H2 e (.tup [.int i,.str tx])) nt (.tup [.str x,.int acc.length])) (upd (upd (upd (upd H2 e (.tup [.int i,.str tx])) nt (.tup [.str x,.int acc.length])) dx (.own o)) o (.ins A.gH dx [])):=fun c u e=>by
         rw[de (gg e no),de (gg e O0)]
         exact e
       refine⟨o,dx,_,_,_,_,rfl,b_,fun H6 r6 r7=>⟨rfl,?_⟩⟩
       have s6:gb (upd (upd H2 e (.tup [.int i,.str tx])) nt (.tup [.str x,.int acc.length])) H6:=fun c u ec=>by
         rw[r6 c (gg ec no)]
         exact MR c u ec
       have Sl:gb H2 H6:=(s4.new YW).trans s6
       have Sm:=Sl _ _ k1
       have K6:mR A H6 o ⟨(x,acc.length),tx,u,Lu kn (texts.drop (i+1)).length i⟩:=⟨dx,.ref nt,vu,bv,r7,⟨nt,rfl,s6 _ _ b_⟩,k4.same Sl,by
         have:=R1 i bv YX
         rw[List.length_drop,show texts.length-(i+1)=texts.length-1-i by omega]
         exact(this.same s1).same (s3.trans Sl)⟩
       refine⟨l,_,_,rfl,rfl,Sm,by rw[RF];omega,?_⟩
       have lo:l≠o:=fun z=>by rw[z,r7] at Sm;cases Sm
       have e7:upd H6 l (.lst (as.map V.ref++[V.ref o])) l=some (.lst ((as++[o]).map V.ref)):=by rw[b_,aam];rfl
       have up:∀c ln,mR A H6 c ln→mR A (upd H6 l (.lst (as.map V.ref++[V.ref o]))) c ln:=fun c ln z=>z.upd Sm (fun _ z=>by cases z) (fun _ _ _ z=>by cases z)
       have r77:upd H6 l (.lst (as.map V.ref++[V.ref o])) o=some (.ins A.gH dx (Lx (.ref nt) (.str tx) vu bv)):=by rw[de lo.symm];exact r7
       refine⟨_,rfl,_,rfl,l,_,_,_,rfl,rfl,hV.of b_,Dy _ _,o,A.gH,dx,_,_,rfl,r77,O.iK,O.gE,iW,?_⟩
       refine⟨_,_,_,some (x,acc.length),as++[o],acc++[⟨(x,acc.length),tx,u,Lu kn (texts.drop (i+1)).length i⟩],rfl,(s3.trans Sl).upd hl,e7,?_,MG,?_,?_⟩
       · exact il (Paired.kx k2 fun c ln z=>up c ln (z.same Sl)) (up _ _ K6)
       · exact lr.upd ⟨nt,rfl,s6 _ _ b_⟩ Sm (fun _ z=>by cases z)
       · rw[aaK,VO]
         exact k5
   · rintro σ H2 ⟨v6,v7,vu,u,as,acc,rfl,s3,k1,k2,k3,k4,k5⟩
     rw[show(gh texts).length=texts.length by simp,abL] at k5
     rw[show sT x kn texts.length acc.length u []=[] from rfl,aaB] at k5
     rw[k5] at k2
     exact⟨_,rfl,q l H2 (s1.trans s3) VP ⟨as,k1,k2⟩⟩
end
theorem GB{row:List Ln}{q:Nat×Nat}:∀{xs:List (Nat×Nat)},q.2∉xs.map (·.2)→∀s,mF row (xs++[q]) s=if q.2=s then(row[q.1]?).map (·.nm) else mF row xs s
 | [],_,s=>rfl
 | x::r,h,s=>by
   rw[aao] at h
   have h1:q.2≠x.2:=fun z=>h (by rw[z];exact aan)
   have h2:q.2∉r.map (·.2):=fun z=>h (aag _ z)
   show(if x.2=s then _ else mF row (r++[q]) s)=if q.2=s then _ else(if x.2=s then _ else mF row r s)
   by_cases e:x.2=s
   · rw[aap e,aak (fun z=>h1 (by rw[z,e])),aap e]
   · rw[aak e,aak e,GB h2 s]
theorem HJ{row:List Ln}{q:Nat×Nat}{l:Ln}(xs:List (Nat×Nat))(h:row[q.1]?=some l):tV row (xs++[q])=tV row xs++[l.nm]:=by
 unfold tV
 rw[abn,aba,h]
 rfl
section
variable{P:Program}{w:World}{K:PySem.W.Frag}{mg:Str→Option Value}{base:Heap}{A:Ad}
theorem JV(T:Txt mg)(O:Ok K mg A):ie P w K mg base lZ 3 A.JG A.JH ["old","new"] Kp.XZ:=
 Kp.LD O.kept.f ⟨T.jV,T.lM,T.QD⟩ O.rM.f O.rM.b O.rM.m O.t7.f O.t7.b O.t7.m O.t8.f O.t8.b O.t8.m
def QU(A:Ad):Sp:=fun vs H Q _=>∃(x f:Str)(r t:Addr)(row:List Ln)(texts:List Str),vs=[.str x,.str f,.ref r,.ref t]∧qj A H r row∧H t=some (.lst (gh texts))∧row.length≤1000∧texts.length≤1000∧
 ∀p H',gb H H'→H p=none→nS A H' p (mx x f row texts)→Q (.ref p) H'
theorem vB(T:Txt mg)(O:Ok K mg A):ie P w K mg base lZ 4 A.pE A.pF ["patch","file","row","texts"] (QU A):=by
 have O1:=JV (P:=P) (w:=w) (base:=base) T O
 have EH:=CA (P:=P) (w:=w) (base:=base) T O
 have jZ:=oU (P:=P) (w:=w) (base:=base) T O
 refine O.rS.f.ok iI (fun vs H Q E h=>?_) (fun jd A0 outer s H vs Q E hr h=>?_)
 · obtain⟨x,f,r,t,row,texts,rfl,_⟩:=h
   rfl
 · obtain⟨x,f,r,t,row,texts,rfl,EE,ht,hn,hm,q⟩:=h
   obtain⟨as,CN,EO⟩:=id EE
   have hlen:=Paired.length EO
   have sz:sizeLine=16777216:=aav
   refine⟨_,(c_ (gw (i:=4) iI.nd rfl (Or.inl rfl) ni)
     (c_ (gw (i:=5) iI.nd rfl (Or.inr rfl) mr)
     (c_ (iO PassesOwn.never rfl (iz (pc0 O.kept O1 hr (a_ (qW l_ (fU jU).names [9] rfl (iz (pv 2)) rfl (by decide+kernel) (fun _ _ _ _=>(gA (i:=9) iI.nd rfl (Or.inl rfl))) (fun _ _ _ _=>lC) (fun _ _ _ _=>⟨_,gz (pv 9) rfl,by(try simp only [ir]);rfl⟩)) (a_ (pv 3) d_)))) (Ir rfl (uA (gA (i:=6) iI.nd rfl (Or.inl rfl)) (uA (gA (i:=7) iI.nd rfl (Or.inl rfl)) Ga))) (c_ (ju (by exact ic hr) (pv 4) (pv 7) (gz (iA h_ (pv 2) (pv 6) (fun _ _=>rfl)) rfl) rfl)
     (e_ (ju (by exact ic hr) (pv 5) (gz (iA h_ (pv 2) (pv 6) (fun _ _=>rfl)) rfl) qR rfl))))
     (c_ (BY (j:=8) l_ (fU jU).names [9] iI.nd rfl rfl rfl (iz (pv 2)) rfl (by decide+kernel) (fun _ _ _ _=>(gA (i:=9) iI.nd rfl (Or.inl rfl))) (fun _ _ _ _=>⟨_,pR (jq (lb (by exact ic hr) (gz (pv 9) rfl) (pv 5))),by(try simp only [ir]);rfl⟩) (fun _ _ _ _=>⟨_,gz (pv 9) rfl,by(try simp only [ir]);rfl⟩))
     (e_ (gG (uF O.Cn jZ (hr.mono (by decide)) (by rfl) O.Co O.lO.b .nil lg (a_ (pv 0) (a_ (pv 1) (a_ (pc0 O.Bp EH hr (a_ (pv 0) (a_ (pv 3) (a_ (pv 4) d_)))) (a_ (pv 8) (a_ tQ d_)))))))))))),?_⟩
   intro k PR g TN
   have Wo:k≠g:=fun z=>by rw[←z,b_] at TN;cases TN
   have YY:H g=none:=(gb.refl H |>.new (o:=.dK []) PR).free TN
   have s1:gb H (upd (upd H k (.dK [])) g (.dT [])):=((gb.refl H).new PR).new TN
   have Sn:(upd (upd H k (.dK [])) g (.dT [])) k=some (.dK []):=by rw[de Wo];exact b_
   have Pp:(upd (upd H k (.dK [])) g (.dT [])) g=some (.dT []):=b_
   generalize upd (upd H k (.dK [])) g (.dT [])=H1 at s1 Sn Pp
   have OX:(as.map V.ref).length≤sizeLine:=by rw[RF,hlen];omega
   refine⟨_,rfl,r,rfl,⟨_,hV.of (s1 _ _ CN)⟩,j2 (K:=K) (a:=r) (xs:=as.map V.ref) OX (fun i ys σ H4=>∃(v9:Option V),σ=[some (.str x),some (.str f),some (.ref r),some (.ref t),some (.ref k),some (.ref g),none,none,none,v9]∧H4=H1∧ys=gh ((row.take i).map (·.tx)))
     ⟨none,rfl,rfl,rfl⟩ (fun i ys σ H4 _ ⟨_,_,e,e2⟩=>by subst e e2;exact⟨hV.of (s1 _ _ CN),by rw[RF,RF,aau];omega⟩) ?_ ?_⟩
   · rintro i v ys σ H4 hx ⟨v9,rfl,rfl,rfl⟩
     obtain⟨b,hb,rfl⟩:=j7 hx
     obtain⟨ln,yk,dx,vn,vu,vl,k1,k2,k3,k4⟩:=iy EO hb
     refine⟨_,rfl,b,A.gH,dx,_,_,rfl,s1 _ _ k1,O.iK,O.jE,zL,_,rfl,rfl,?_⟩
     rw[take_snoc yk,aam,jo]
     rfl
   · rintro ys σ H4 ⟨v9,rfl,rfl,rfl⟩ o TQ
     rw[RF,hlen,aaj]
     have s2:gb H4 (upd H4 o (.lst (gh (row.map (·.tx))))):=(gb.refl H4).new TQ
     refine⟨_,rfl,row.map (·.tx),texts,o,t,rfl,b_,s2 _ _ (s1 _ _ ht),by rw[RF];exact hn,hm,fun pr H5 ps s5 Ih So O2=>?_⟩
     have Sq:gb H4 H5:=s2.trans s5
     have YZ:gb H H5:=s1.trans Sq
     have rise:=sI (row.map (·.tx)) texts
     rw[RF] at rise
     have Wq:(K01.kept (row.map (·.tx)) texts).length≤1000:=by
       rw[K01.w9]
       have:=K01.DS (row.map (·.tx)) texts
       rw[RF] at this
       omega
     generalize hqs:K01.kept (row.map (·.tx)) texts=qs at O2 rise Wq
     have MN:=Paired.length O2
     refine⟨pr,rfl,⟨_,hV.of So⟩,jr (K:=K) (a:=pr) (xs:=ps) (fun i σ H6=>∃(v6 v7:Option V)(kk:List (Key×V))(kg:List (List Key×V)),σ=[some (.str x),some (.str f),some (.ref r),some (.ref t),some (.ref k),some (.ref g),v6,v7,none,none]∧(∀b o,H5 b=some o→b≠k→b≠g→H6 b=some o)∧H6 k=some (.dK kk)∧kk.length≤i∧(∀s:Nat,match mF row (qs.take i) s with|some m=>∃v,iL kk (Sum.inl (s:Int))=some v∧lr H v m|none=>iL kk (Sum.inl (s:Int))=none)∧H6 g=some (.dT kg)∧kg.length≤i∧Pl kg (tV row (qs.take i)))
       ⟨none,none,[],[],rfl,fun b o e _ _=>e,Sq _ _ Sn,UU _,(fun s=>by rw[abj];exact rfl),Sq _ _ Pp,UU _,(fun n=>rfl)⟩ (fun i σ H6 _ ⟨_,_,_,_,_,e,_⟩=>hV.of (e _ _ So (fun z=>by rw[z] at Ih;rw[s2 _ _ Sn] at Ih;cases Ih) (fun z=>by rw[z] at Ih;rw[s2 _ _ Pp] at Ih;cases Ih))) ?_ ?_⟩
     · rintro i v σ H6 hx ⟨v6,v7,kk,kg,rfl,e1,e2,e3,e4,e5,e6,e7⟩
       obtain⟨qq,hq,pt,rfl,KI⟩:=lj O2 hx
       have Wr:H5 k=some (.dK []):=Sq _ _ Sn
       have Ws:H5 g=some (.dT []):=Sq _ _ Pp
       have hi:i<qs.length:=(RL.mp hq).1
       obtain⟨Sk,OW⟩:=rise.2 qq (VI hq)
       obtain⟨b,TM,Y0⟩:=zP EO (UR Sk)
       have AZ:row[qq.1]?=some row[qq.1]:=UR Sk
       generalize row[qq.1]=ln at Y0 AZ
       obtain⟨dx,vn,vu,vl,z1,⟨nt,rfl,z2⟩,z3,z4⟩:=Y0
       have up:∀{b o},H b=some o→H6 b=some o:=fun{b o} e=>e1 b o (YZ _ _ e) (fun z=>by rw[z,PR] at e;cases e) (fun z=>by rw[z,YY] at e;cases e)
       refine⟨pt,_,rfl,vK.of (e1 _ _ KI (i0 KI Wr (fun z=>by cases z)) (i0 KI Ws (fun z=>by cases z))),rfl,_,_,rfl,_,_,rfl,rfl,?_⟩
       refine⟨_,rfl,_,rfl,r,_,_,_,rfl,rfl,hV.of (up CN),iB rfl TM,b,A.gH,dx,_,_,rfl,up z1,O.iK,O.gE,iW,_,rfl,_,rfl,k,_,rfl,mY.k (k:=Sum.inl (qq.2:Int)) e2 (by omega),?_⟩
       have Wt:∀{b o},H b=some o→upd H6 k (.dK (putK kk (Sum.inl (qq.2:Int)) (V.ref nt))) b=some o:=fun{b o} e=>by rw[de (fun z=>by rw[z,PR] at e;cases e)];exact up e
       have RI:=jn kk (Sum.inl (qq.2:Int):Key) (V.ref nt)
       have EN:=jn kg (nk ln.nm) (V.bl true)
       refine⟨_,rfl,_,rfl,_,rfl,r,_,_,_,rfl,rfl,hV.of (Wt CN),iB rfl TM,b,A.gH,dx,_,_,rfl,Wt z1,O.iK,O.gE,iW,g,_,rfl,mY.t (k:=nk ln.nm) (by rw[de Wo.symm];exact e5) (Wt z2) (by omega),?_⟩
       have Ma:qq.2∉(qs.take i).map (·.2):=fun z=>by
         obtain⟨w1,hw1,ew⟩:=aaz.mp z
         obtain⟨j,hj⟩:=aaI.mp hw1
         have Ic:j<i:=by have:=(RL.mp hj).1;rw[aau] at this;omega
         rw[abm,aap Ic] at hj
         obtain⟨hj1,hj2⟩:=RL.mp hj
         have:=abp.mp rise.1 j i hj1 hi Ic
         rw[hj2,(RL.mp hq).2] at this
         omega
       refine⟨_,_,_,_,rfl,fun b o e nk ng=>?_,by rw[de Wo];exact b_,by omega,fun s=>?_,b_,by omega,?_⟩
       · rw[de ng,de nk];exact e1 b o e nk ng
       · rw[take_snoc hq,GB Ma,j8]
         by_cases es:qq.2=s
         · subst es
           rw[aap rfl,aap rfl,AZ]
           exact⟨_,rfl,nt,rfl,z2⟩
         · rw[aak es,aak (fun z=>es (by have:=Sum.inl.inj z;omega))]
           exact e4 s
       · rw[take_snoc hq,HJ _ AZ]
         exact e7.put ln.nm _
     · rintro σ H6 ⟨v6,v7,kk,kg,rfl,e1,e2,e3,e4,e5,e6,e7⟩
       rw[←MN,aaj] at e4 e7
       have up:∀{b o},H b=some o→H6 b=some o:=fun{b o} e=>e1 b o (YZ _ _ e) (fun z=>by rw[z,PR] at e;cases e) (fun z=>by rw[z,YY] at e;cases e)
       have sH6:gb H H6:=fun b o e=>up e
       refine⟨_,rfl,r,rfl,⟨_,hV.of (up CN)⟩,j2 (K:=K) (a:=r) (xs:=as.map V.ref) OX (fun i ys σ H4=>∃(v9:Option V),σ=[some (.str x),some (.str f),some (.ref r),some (.ref t),some (.ref k),some (.ref g),v6,v7,none,v9]∧H4=H6∧ys.length≤i∧Paired (lr H) ys (((row.take i).filter fun l=>l.nm∉tV row qs).map (·.nm)))
         ⟨none,rfl,rfl,UU _,.nil⟩ (fun i ys σ H4 _ ⟨_,_,e,e20,_⟩=>by rw[e];exact⟨hV.of (up CN),e20⟩) ?_ ?_⟩
       · rintro i v ys σ H7 hx ⟨v9,rfl,rfl,e8,e9⟩
         obtain⟨b,hb,rfl⟩:=j7 hx
         obtain⟨ln,yk,dx,vn,vu,vl,k1,⟨nt,rfl,k2⟩,k3,k4⟩:=iy EO hb
         refine⟨_,rfl,b,A.gH,dx,_,_,rfl,up k1,O.iK,O.gE,iW,_,rfl,g,_,rfl,i3.t (k:=nk ln.nm) e5 (up k2),_,rfl,?_⟩
         rw[e7 ln.nm,take_snoc yk,aaF,aam]
         by_cases A1:ln.nm∈tV row qs
         · rw[UW A1]
           refine k7 ⟨_,rfl,rfl,by omega,?_⟩
           rw[aaf (by simpa using A1),aaR,List.map_nil,aaB]
           exact e9
         · rw[XX A1]
           refine mD ⟨_,rfl,b,A.gH,dx,_,_,rfl,up k1,O.iK,O.gE,iW,_,rfl,rfl,MG,?_⟩
           rw[XW (by simpa using A1),aaR]
           exact il e9 ⟨nt,rfl,k2⟩
       · rintro ys σ H7 ⟨v9,rfl,rfl,e8,e9⟩ c TR
         rw[RF,hlen,aaj] at e9
         have s8:=sH6.new (o:=.lst ys) TR
         have V_:c≠k:=fun z=>by rw[z,e2] at TR;cases TR
         refine⟨_,rfl,_,rfl,_,rfl,_,rfl,_,rfl,x,t,k,texts,mF row qs,rfl,hV.of (s8 _ _ ht),fun H' s'=>hV.of (s' _ _ (s8 _ _ ht)),⟨kk,by rw[de V_.symm];exact e2,fun s=>?_⟩,by omega,fun pu H9 s9 hpu0 Wu=>?_⟩
         · have:=e4 s
           cases ek:mF row qs s with
           | none=>rw[ek] at this;exact this
           | some m=>rw[ek] at this;obtain⟨v,w1,w2⟩:=this;exact⟨v,w1,w2.same s8⟩
         · refine⟨_,rfl,?_⟩
           intro o dx no O0 Wn
           refine⟨o,dx,_,_,_,_,_,rfl,b_,fun Sr r6 r7=>⟨rfl,?_⟩⟩
           have Mb:gb H9 Sr:=fun c u ec=>by
             rw[r6 c (gg ec no),de (gg ec no),de (gg ec O0)]
             exact ec
           have Ss:=(s8.trans s9).trans Mb
           refine q o Sr Ss ((s8.trans s9).free no) ?_
           unfold mx
           rw[hqs]
           exact⟨dx,_,pu,c,.jv,r7,rfl,Wu.same Mb,⟨ys,Mb _ _ (s9 _ _ b_),Paired.kx e9 fun _ _ z=>z.same Ss⟩,rfl⟩
end
def lX:Str:=Str.ofString "abcdefghijklmnopqrstuvwxyz0123456789"
def Good(x:Str):Prop:=1≤x.length∧x.length≤12∧∀c∈x.cps.toList,c∈lX.cps.toList
def jw(x:Str):Prop:=(reprText x).length≤1048576∧x.length≤1000
abbrev sk(x:Str):Key:=Sum.inr x
theorem zS{x:Str}{l:List Str}:sk x∈l.map sk↔x∈l:=by
 constructor
 · intro h
   obtain⟨m,hm,e⟩:=aaz.mp h
   rw[←Sum.inr.inj e];exact hm
 · exact fun h=>aab h
theorem kL{dk:List (Key×V)}{l:List Str}(h:dk.map (·.1)=l.map sk):dk.length=l.length:=by
 have:=congrArg List.length h
 rwa [RF,RF] at this
theorem wF{dk:List (Key×V)}{l:List Str}(h:dk.map (·.1)=l.map sk){i:Nat}{k:Key}{v:V}(hi:dk[i]?=some (k,v)):∃x,l[i]?=some x∧k=sk x:=by
 have h1:(dk.map (·.1))[i]?=some k:=by rw[aah,hi];rfl
 rw[h,aah] at h1
 obtain⟨n,e,e2⟩:=aaA.mp h1
 exact⟨n,e,e2.symm⟩
theorem kl{dk:List (Key×V)}{l:List Str}(h:dk.map (·.1)=l.map sk)(x:Str):(iL dk (sk x)).isSome=decide (x∈l):=by
 by_cases m:x∈l
 · rw[UW m];exact sP.mpr (by rw[h];exact zS.mpr m)
 · rw[XX m,abc];exact fun z=>m (zS.mp (by rw[←h];exact sP.mp z))
theorem pL{dk:List (Key×V)}{l:List Str}(h:dk.map (·.1)=l.map sk){x:Str}(hx:x∉l)(v:V):(putK dk (sk x) v).map (·.1)=(l++[x]).map sk:=by
 rw[pK,h,aak (fun z=>hx (zS.mp z)),aam];rfl
theorem zT{dk:List (Key×V)}{l:List Str}(h:dk.map (·.1)=l.map sk):(dk.map fun kv=>kV kv.1)=gh l:=by
 have:(dk.map fun kv=>kV kv.1)=(dk.map (·.1)).map kV:=by rw[List.map_map];rfl
 rw[this,h,List.map_map];rfl
def xU(m n h:Addr):List (Str×V):=[("made",.ref m),("needs",.ref n),("held",.ref h)]
theorem N6(m n h:Addr):jx "held" (.ref h) (jx "needs" (.ref n) (jx "made" (.ref m) []))=xU m n h:=by kernel_rfl
theorem kE(m n h:Addr):(xU m n h).lookup ("held":Str)=some (V.ref h):=by kernel_rfl
theorem nN(m n h:Addr):(xU m n h).lookup ("made":Str)=some (V.ref m):=by kernel_rfl
theorem sQ(m n h:Addr):(xU m n h).lookup ("needs":Str)=some (V.ref n):=by kernel_rfl
structure Dp where
 dx:Addr
 m:Addr
 n:Addr
 h:Addr
 ha:Str→Addr
 kM:List (Key×V)
 kN:List (Key×V)
 kH:List (Key×V)
structure Mv(A:Ad)(H:Hp)(d:Addr)(D:Dk)(W:Addr→Prop)(π:Dp):Prop where
 hd:H d=some (.ins A.gk π.dx (xU π.m π.n π.h))
 hm:H π.m=some (.dK π.kM)
 hn:H π.n=some (.dK π.kN)
 hh:H π.h=some (.dK π.kH)
 mn:π.m≠π.n
 mh:π.m≠π.h
 nh:π.n≠π.h
 wm:W π.m
 wn:W π.n
 wh:W π.h
 km:π.kM.map (·.1)=D.names.map sk
 vm:∀p∈D.made,∃a,iL π.kM (sk p.nm)=some (.ref a)∧nS A H a p
 kn:π.kN.map (·.1)=D.names.map sk
 vn:∀x∈D.names,∃(a:Addr)(kv:List (Key×V))(l:List Str),iL π.kN (sk x)=some (.ref a)∧¬W a∧H a=some (.dK kv)∧kv.map (·.1)=l.map sk∧l.Nodup∧∀y,y∈l↔y∈D.iZ x
 kh:π.kH.map (·.1)=D.stores.map sk
 vh:∀s∈D.stores,iL π.kH (sk s)=some (.ref (π.ha s))∧W (π.ha s)∧π.ha s≠π.m∧π.ha s≠π.n∧π.ha s≠π.h∧∃kv:List (Key×V),H (π.ha s)=some (.dK kv)∧kv.map (·.1)=(D.held s).map sk
 inj:∀s∈D.stores,∀t∈D.stores,π.ha s=π.ha t→s=t
 dk:∀b,W b→∃kv,H b=some (.dK kv)
def ik(A:Ad)(H:Hp)(d:Addr)(D:Dk)(W:Addr→Prop):Prop:=∃π,Mv A H d D W π
theorem Mv.same{A:Ad}{H H':Hp}{d:Addr}{D:Dk}{W:Addr→Prop}{π:Dp}(x:Mv A H d D W π)(s:gb H H'):Mv A H' d D W π where
 hd:=s _ _ x.hd
 hm:=s _ _ x.hm
 hn:=s _ _ x.hn
 hh:=s _ _ x.hh
 mn:=x.mn
 mh:=x.mh
 nh:=x.nh
 wm:=x.wm
 wn:=x.wn
 wh:=x.wh
 km:=x.km
 vm:=fun p hp=>by obtain⟨a,h1,h2⟩:=x.vm p hp;exact⟨a,h1,h2.same s⟩
 kn:=x.kn
 vn:=fun y hy=>by obtain⟨a,kv,l,h1,h2,h3,h4⟩:=x.vn y hy;exact⟨a,kv,l,h1,h2,s _ _ h3,h4⟩
 kh:=x.kh
 vh:=fun t ht=>by obtain⟨h1,h2,h3,h4,h5,kv,h6,h7⟩:=x.vh t ht;exact⟨h1,h2,h3,h4,h5,kv,s _ _ h6,h7⟩
 inj:=x.inj
 dk:=fun b hb=>by obtain⟨kv,h⟩:=x.dk b hb;exact⟨kv,s _ _ h⟩
theorem ik.same{A:Ad}{H H':Hp}{d:Addr}{D:Dk}{W:Addr→Prop}(x:ik A H d D W)(s:gb H H'):ik A H' d D W:=by
 obtain⟨π,x⟩:=x
 exact⟨π,x.same s⟩
def qL(W:Addr→Prop)(H H':Hp):Prop:=∀b o,H b=some o→¬W b→H' b=some o
theorem qL.of{W:Addr→Prop}{H H':Hp}(s:gb H H'):qL W H H':=fun b o e _=>s b o e
theorem ik.lst{A:Ad}{H:Hp}{d a:Addr}{D:Dk}{W:Addr→Prop}{xs:List V}(x:ik A H d D W)(h:H a=some (.lst xs)):¬W a:=fun z=>by
 obtain⟨π,x⟩:=x
 obtain⟨kv,e⟩:=x.dk a z
 rw[h] at e;cases e
theorem ik.jv{A:Ad}{H:Hp}{d a:Addr}{D:Dk}{W:Addr→Prop}(x:ik A H d D W)(h:H a=none):¬W a:=fun z=>by
 obtain⟨π,x⟩:=x
 obtain⟨kv,e⟩:=x.dk a z
 rw[h] at e;cases e
theorem Et(m n h:Addr):(xU m n h).lookup ("check_store":Str)=none∧(xU m n h).lookup ("check_new":Str)=none∧(xU m n h).lookup ("check_held":Str)=none∧(xU m n h).lookup ("check_made":Str)=none∧(xU m n h).lookup ("keep":Str)=none:=
 ⟨by kernel_rfl,by kernel_rfl,by kernel_rfl,by kernel_rfl,by kernel_rfl⟩
theorem ux(m n h:Addr):(xU m n h).lookup ("has":Str)=none∧(xU m n h).lookup ("patches_of":Str)=none∧(xU m n h).lookup ("sight_of":Str)=none∧(xU m n h).lookup ("row":Str)=none∧(xU m n h).lookup ("quarrels":Str)=none∧(xU m n h).lookup ("stores":Str)=none∧(xU m n h).lookup ("patches":Str)=none∧(xU m n h).lookup ("leans":Str)=none∧(xU m n h).lookup ("files":Str)=none∧(xU m n h).lookup ("stay":Str)=none:=
 ⟨by kernel_rfl,by kernel_rfl,by kernel_rfl,by kernel_rfl,by kernel_rfl,by kernel_rfl,by kernel_rfl,by kernel_rfl,by kernel_rfl,by kernel_rfl⟩
theorem Il(m n h:Addr):(xU m n h).lookup ("begin":Str)=none∧(xU m n h).lookup ("record":Str)=none∧(xU m n h).lookup ("cut":Str)=none∧(xU m n h).lookup ("back":Str)=none∧(xU m n h).lookup ("take":Str)=none∧(xU m n h).lookup ("drop":Str)=none:=
 ⟨by kernel_rfl,by kernel_rfl,by kernel_rfl,by kernel_rfl,by kernel_rfl,by kernel_rfl⟩
section
variable{P:Program}{w:World}{K:PySem.W.Frag}{mg:Str→Option Value}{base:Heap}{A:Ad}
def S8:Dk:=⟨[],fun _=>[],[],fun _=>[]⟩
theorem U6:Inv S8:=⟨aa6,(fun p hp=>by cases hp),(fun p hp=>by cases hp),⟨fun _=>0,fun p hp=>by cases hp⟩,(fun i p hp=>by simp[S8] at hp),(fun x hx=>by cases hx),aa6,(fun s hs=>by cases hs),(fun s hs=>by cases hs)⟩
def N7(A:Ad):Sp:=fun vs H Q _=>∃(p dx:Addr),vs=[.ref p]∧H p=some (.ins A.gk dx [])∧∀(H':Hp)(W:Addr→Prop),ik A H' p S8 W→(∀b,W b→H b=none)→(∀b o,H b=some o→b≠p→H' b=some o)→Q .jv H'
theorem CB(T:Txt mg)(O:Ok K mg A):ie P w K mg base lZ 1 A.mO A.qF ["self"] (N7 A):=by
 refine O.tK.f.ok wg (fun vs H Q E h=>?_) (fun jd A0 outer s H vs Q E hr h=>?_)
 · obtain⟨p,dx,rfl,_⟩:=h
   rfl
 · obtain⟨p,dx,rfl,hp,k⟩:=h
   refine⟨_,(c_ (ly (pv 0) ni rfl)
     (c_ (ly (pv 0) ni rfl)
     (e_ (ly (pv 0) ni rfl)))),?_⟩
   intro m hm
   have FU:p≠m:=gg hp hm
   refine⟨_,rfl,p,A.gk,dx,_,rfl,(by rw[de FU];exact hp),O.gn,O.iM,(by show 0<1000;decide),?_⟩
   intro n hn
   have Su:p≠n:=gg b_ hn
   have TU:m≠n:=by
     intro z;subst z;rw[de FU.symm,b_] at hn;cases hn
   have hH:H n=none:=by rw[de Su.symm,de TU.symm] at hn;exact hn
   refine⟨_,rfl,p,A.gk,dx,_,rfl,(by rw[de Su];exact b_),O.gn,O.i8,(by show 1<1000;decide),?_⟩
   intro h hh
   have TV:p≠h:=gg b_ hh
   have Wv:n≠h:=by
     intro z;subst z;rw[de Su.symm,b_] at hh;cases hh
   have Ww:m≠h:=by
     intro z;subst z;rw[de FU.symm,de TU,de FU.symm,b_] at hh;cases hh
   have Y1:H h=none:=by rw[de TV.symm,de Wv.symm,de TV.symm,de Ww.symm] at hh;exact hh
   refine⟨_,rfl,p,A.gk,dx,_,rfl,(by rw[de TV];exact b_),O.gn,O.ip,(by show 2<1000;decide),?_⟩
   have e1:∀{o},upd (upd (upd (upd (upd (upd H m (.dK [])) p (.ins A.gk dx (jx "made" (.ref m) []))) n (.dK [])) p (.ins A.gk dx (jx "needs" (.ref n) (jx "made" (.ref m) [])))) h (.dK [])) p o m=some (.dK []):=by
     intro o;rw[de FU.symm,de Ww,de FU.symm,de TU,de FU.symm,b_]
   have e2:∀{o},upd (upd (upd (upd (upd (upd H m (.dK [])) p (.ins A.gk dx (jx "made" (.ref m) []))) n (.dK [])) p (.ins A.gk dx (jx "needs" (.ref n) (jx "made" (.ref m) [])))) h (.dK [])) p o n=some (.dK []):=by
     intro o;rw[de Su.symm,de Wv,de Su.symm,b_]
   have e3:∀{o},upd (upd (upd (upd (upd (upd H m (.dK [])) p (.ins A.gk dx (jx "made" (.ref m) []))) n (.dK [])) p (.ins A.gk dx (jx "needs" (.ref n) (jx "made" (.ref m) [])))) h (.dK [])) p o h=some (.dK []):=by
     intro o;rw[de TV.symm,b_]
   refine k _ (fun b=>b=m∨b=n∨b=h) ⟨⟨dx,m,n,h,fun _=>0,[],[],[]⟩,Eq.trans b_ (congrArg (fun l=>some (HO.ins A.gk dx l)) (N6 m n h)),e1,e2,e3,TU,Ww,Wv,.inl rfl,.inr (.inl rfl),.inr (.inr rfl),rfl,(fun p hp=>by cases hp),rfl,(fun p hp=>by cases hp),rfl,(fun p hp=>by cases hp),(fun p hp=>by cases hp),fun b hb=>?_⟩ (fun b hb=>?_) fun b o e hb=>?_
   · rcases hb with rfl|rfl|rfl
     · exact⟨_,e1⟩
     · exact⟨_,e2⟩
     · exact⟨_,e3⟩
   · rcases hb with rfl|rfl|rfl
     · exact hm
     · exact hH
     · exact Y1
   · rw[de hb,de (gg e Y1),de hb,de (gg e hH),de hb,de (gg e hm)]
     exact e
def LH(XB:Addr):Sp:=fun vs H Q E=>∃x:Str,vs=[.str x]∧jw x∧(Good x→Q .jv H)∧(¬Good x→E (.ref XB) none H)
theorem Mw:(12:Int).natAbs.log2<1920:=by decide
theorem tL(T:Txt mg)(O:Ok K mg A):ie P w K mg base (sH P w) 1 A.u0 A.u4 ["name"] (LH A.i5):=by
 refine O.t9.f.AD tm (fun vs H Q E h=>?_) (fun jd A0 outer s H vs Q E hr h=>?_)
 · obtain⟨x,rfl,_⟩:=h
   rfl
 · obtain⟨x,rfl,⟨hf,hl⟩,q,qe⟩:=h
   refine⟨_,(c_ (iw (yG (Dq Iw Iw f_ (gD uH (by rfl) T.jV aas (a_ (pv 0) d_)) (lx (v:=.int 12) (by rfl) O.rX ⟨_,rfl⟩))) (e_ (j9 bx O.wA (by rfl) (lD (iu ix (iu (Ji (lx (v:=.int 12) (by rfl) O.rX ⟨_,rfl⟩)) (iu ix (iu (mE (pv 0)) nj))))))) hG)
     (e_ (iO IV rfl (ND (pv 0)) (gA (i:=1) tm.nd rfl (Or.inl rfl)) (e_ (iw (ib BM (pv 1) (lx (v:=.str (Str.ofString "abcdefghijklmnopqrstuvwxyz0123456789")) (by rfl) O.Cq ⟨_,rfl⟩) rfl) (e_ (j9 bx O.wA (by rfl) (lD (iu ix (iu (mE (pv 0)) nj))))) hG))))),?_⟩
   have hz:x.length≤sizeLine:=aac hl (by decide)
   have bad:¬Good x→∀H',H'=H→E (.ref A.i5) none H':=fun g H' e=>by subst e;exact qe g
   refine⟨_,rfl,_,rfl,hz,_,_,rfl,rfl,_,rfl,?_⟩
   refine jT (fun h1=>?_) (fun h1=>?_)
   · refine⟨_,_,rfl,rfl,_,rfl,?_⟩
     refine jT (fun h2=>?_) (fun h2=>?_)
     ·
       have h2:¬((x.length:Int)≤12):=by simpa using h2
       refine⟨_,rfl,by decide+kernel,⟨_,rfl,Mw,_,rfl,by decide+kernel,⟨_,rfl,by decide+kernel,⟨_,rfl,_,rfl,hf,_,rfl,hf,fun _=>qe fun g=>?_⟩⟩⟩⟩
       have:=g.2.1;omega
     · have h1:(1:Int)≤(x.length:Int):=by simpa using h1
       have h2:(x.length:Int)≤12:=by simpa using h2
       refine⟨_,rfl,x,rfl,Jh (fun i σ H2=>∃v,σ=[some (.str x),v]∧H2=H∧∀j<i,∀c,x.cps[j]?=some c→c∈lX.cps.toList) ⟨none,rfl,rfl,fun j hj=>absurd hj (by omega)⟩ ?_ ?_⟩
       · rintro i c σ H2 hc ⟨v,rfl,rfl,hp⟩
         refine⟨_,rfl,_,_,rfl,rfl,_,rfl,?_⟩
         rw[Li]
         refine jT (fun h3=>?_) (fun h3=>?_)
         · have h3:c∉lX.cps.toList:=by simpa[lX] using h3
           refine⟨_,rfl,by decide+kernel,⟨_,rfl,_,rfl,hf,_,rfl,hf,fun _=>qe fun g=>?_⟩⟩
           exact h3 (g.2.2 c (VI (i:=i) (by rw[aaY];exact hc)))
         · have h3:c∈lX.cps.toList:=by simpa[lX] using h3
           refine⟨_,rfl,rfl,fun j hj c' BG=>?_⟩
           by_cases e:j=i
           · subst e;rw[hc] at BG;cases BG;exact h3
           · exact hp j (by omega) c' BG
       · rintro σ H2 ⟨v,rfl,rfl,hp⟩
         refine q ⟨by omega,by omega,fun c hc=>?_⟩
         obtain⟨j,hj,e⟩:=List.mem_iff_getElem.mp hc
         have Y2:j<x.cps.size:=by simpa using hj
         exact hp j Y2 c (by rw[aaO Y2];simpa using e)
   · have h1:¬((1:Int)≤(x.length:Int)):=by simpa using h1
     refine⟨_,rfl,?_⟩
     refine⟨_,rfl,by decide+kernel,⟨_,rfl,Mw,_,rfl,by decide+kernel,⟨_,rfl,by decide+kernel,⟨_,rfl,_,rfl,hf,_,rfl,hf,fun _=>qe fun g=>?_⟩⟩⟩⟩
     have:=g.1;omega
def JW(A:Ad):Sp:=fun vs H Q _=>∃(d:Addr)(D:Dk)(W:Addr→Prop),vs=[.ref d]∧ik A H d D W∧∀p,H p=none→Q (.ref p) (upd H p (.lst (gh D.stores)))
theorem HK(T:Txt mg)(O:Ok K mg A):ie P w K mg base lZ 1 A.tF A.tG ["self"] (JW A):=by
 refine O.kC.f.ok zj (fun vs H Q E h=>?_) (fun jd A0 outer s H vs Q E hr h=>?_)
 · obtain⟨d,D,W,rfl,_⟩:=h
   rfl
 · obtain⟨d,D,W,rfl,⟨π,x⟩,q⟩:=h
   refine⟨_,(e_ (gG (sF (qY rfl) (by rfl) T.zu abx (a_ (gz (pv 0) rfl) d_)))),?_⟩
   refine⟨_,rfl,d,A.gk,π.dx,_,_,rfl,x.hd,O.gn,O.ip,kE _ _ _,π.h,_,rfl,x.hh,fun p qN=>?_⟩
   rw[zT x.kh]
   exact q p qN
def HL(A:Ad):Sp:=fun vs H Q _=>∃(d:Addr)(D:Dk)(W:Addr→Prop),vs=[.ref d]∧ik A H d D W∧∀p,H p=none→Q (.ref p) (upd H p (.lst (gh D.names)))
theorem FD(T:Txt mg)(O:Ok K mg A):ie P w K mg base lZ 1 A.rF A.rG ["self"] (HL A):=by
 refine O.j6.f.ok ya (fun vs H Q E h=>?_) (fun jd A0 outer s H vs Q E hr h=>?_)
 · obtain⟨d,D,W,rfl,_⟩:=h
   rfl
 · obtain⟨d,D,W,rfl,⟨π,x⟩,q⟩:=h
   refine⟨_,(e_ (gG (sF (qY rfl) (by rfl) T.zu abx (a_ (gz (pv 0) rfl) d_)))),?_⟩
   refine⟨_,rfl,d,A.gk,π.dx,_,_,rfl,x.hd,O.gn,O.iM,nN _ _ _,π.m,_,rfl,x.hm,fun p qN=>?_⟩
   rw[zT x.km]
   exact q p qN
def LI(A:Ad):Sp:=fun vs H Q E=>∃(d:Addr)(D:Dk)(W:Addr→Prop)(s:Str),vs=[.ref d,.str s]∧ik A H d D W∧jw s∧(s∈D.stores→Q .jv H)∧(s∉D.stores→E (.ref A.gj) none H)
theorem jX(T:Txt mg)(O:Ok K mg A):ie P w K mg base (sH P w) 1 A.nL A.nM ["self","store"] (LI A):=by
 refine O.iR.f.AD sW (fun vs H Q E h=>?_) (fun jd A0 outer s H vs Q E hr h=>?_)
 · obtain⟨d,D,W,s,rfl,_⟩:=h
   rfl
 · obtain⟨d,D,W,st,rfl,⟨π,x⟩,hf,q,qe⟩:=h
   refine⟨_,(e_ (iw (jq (lb (by exact ic hr) (pv 1) (gz (pv 0) rfl))) (e_ (j9 bx O.Bv (by rfl) (lD (iu ix (iu (mE (pv 1)) nj))))) hG)),?_⟩
   refine⟨_,rfl,_,rfl,d,A.gk,π.dx,_,_,rfl,x.hd,O.gn,O.ip,kE _ _ _,π.h,_,rfl,i3.k (k:=sk st) x.hh,_,rfl,?_⟩
   rw[kl x.kh]
   by_cases hs:st∈D.stores
   · rw[UW hs]
     exact q hs
   · rw[XX hs]
     exact mD ⟨_,rfl,by decide+kernel,⟨_,rfl,_,rfl,hf.1,_,rfl,hf.1,fun _=>qe hs⟩⟩
def N8(A:Ad):Sp:=fun vs H Q E=>∃(d:Addr)(D:Dk)(W:Addr→Prop)(s:Str),vs=[.ref d,.str s]∧ik A H d D W∧jw s∧(s∈D.names→Q .jv H)∧(s∉D.names→E (.ref A.jc) none H)
theorem AS(T:Txt mg)(O:Ok K mg A):ie P w K mg base (sH P w) 1 A.oz A.oA ["self","patch"] (N8 A):=by
 refine O.qK.f.AD tZ (fun vs H Q E h=>?_) (fun jd A0 outer s H vs Q E hr h=>?_)
 · obtain⟨d,D,W,s,rfl,_⟩:=h
   rfl
 · obtain⟨d,D,W,st,rfl,⟨π,x⟩,hf,q,qe⟩:=h
   refine⟨_,(e_ (iw (jq (lb (by exact ic hr) (pv 1) (gz (pv 0) rfl))) (e_ (j9 bx O.wB (by rfl) (lD (iu ix (iu (mE (pv 1)) nj))))) hG)),?_⟩
   refine⟨_,rfl,_,rfl,d,A.gk,π.dx,_,_,rfl,x.hd,O.gn,O.iM,nN _ _ _,π.m,_,rfl,i3.k (k:=sk st) x.hm,_,rfl,?_⟩
   rw[kl x.km]
   by_cases hs:st∈D.names
   · rw[UW hs]
     exact q hs
   · rw[XX hs]
     exact mD ⟨_,rfl,by decide+kernel,⟨_,rfl,_,rfl,hf.1,_,rfl,hf.1,fun _=>qe hs⟩⟩
def N9(A:Ad):Sp:=fun vs H Q E=>∃(d:Addr)(D:Dk)(W:Addr→Prop)(s x:Str),vs=[.ref d,.str s,.str x]∧ik A H d D W∧jw s∧jw x∧s∈D.stores∧(x∈D.held s→Q .jv H)∧(x∉D.held s→E (.ref A.jc) none H)
theorem oV(T:Txt mg)(O:Ok K mg A):ie P w K mg base (sH P w) 1 A.oB A.oC ["self","store","patch"] (N9 A):=by
 refine O.kY.f.AD t5 (fun vs H Q E h=>?_) (fun jd A0 outer s H vs Q E hr h=>?_)
 · obtain⟨d,D,W,s,y,rfl,_⟩:=h
   rfl
 · obtain⟨d,D,W,st,y,rfl,⟨π,x⟩,hf,Ii,hs,q,qe⟩:=h
   obtain⟨v1,_,_,_,_,kv,v2,v3⟩:=x.vh st hs
   refine⟨_,(e_ (iw (jq (lb (by exact ic hr) (pv 2) (iU (by exact ic hr) (gz (pv 0) rfl) (pv 1) (fun _ _=>rfl)))) (e_ (j9 bx O.wB (by rfl) (lD (iu ix (iu (mE (pv 1)) (iu ix (iu (mE (pv 2)) nj))))))) hG)),?_⟩
   refine⟨_,rfl,_,rfl,d,A.gk,π.dx,_,_,rfl,x.hd,O.gn,O.ip,kE _ _ _,_,rfl,π.h,.ref (π.ha st),rfl,?_,π.ha st,_,rfl,i3.k (k:=sk y) v2,_,rfl,?_⟩
   · have:=i3.k (k:=sk st) x.hh
     rw[v1] at this
     exact this
   · rw[kl v3]
     by_cases hy:y∈D.held st
     · rw[UW hy]
       exact q hy
     · rw[XX hy]
       refine mD ?_
       exact⟨_,rfl,by decide+kernel,⟨_,rfl,_,rfl,hf.1,_,rfl,hf.1,⟨_,rfl,by decide+kernel,⟨_,rfl,_,rfl,Ii.1,_,rfl,Ii.1,fun _=>qe hy⟩⟩⟩⟩
end
def JX(H:Hp)(v:V)(l:Ln):Prop:=∃t,v=.ref t∧H t=some (.tup [.str l.nm.1,.int l.nm.2,.str l.tx])
def JY(H:Hp)(a:Addr)(row:List Ln):Prop:=∃vs,H a=some (.lst vs)∧Paired (JX H) vs row
theorem JX.same{H H':Hp}{v:V}{l:Ln}(x:JX H v l)(s:gb H H'):JX H' v l:=by obtain⟨t,e,h⟩:=x;exact⟨t,e,s _ _ h⟩
section
variable{P:Program}{w:World}{K:PySem.W.Frag}{mg:Str→Option Value}{base:Heap}{A:Ad}
def QV(A:Ad):Sp:=fun vs H Q E=>∃(d:Addr)(D:Dk)(W:Addr→Prop)(s:Str),vs=[.ref d,.str s]∧ik A H d D W∧jw s∧wC D.made.length∧(s∉D.stores→E (.ref A.gj) none H)∧(s∈D.stores→∀p,H p=none→Q (.ref p) (upd H p (.lst (gh (D.has s)))))
theorem FE(T:Txt mg)(O:Ok K mg A):ie P w K mg base (sH P w) 2 A.zw A.zx ["self","store"] (QV A):=by
 have ia:=jX (P:=P) (w:=w) (base:=base) T O
 refine O.lP.f.AD xb (fun vs H Q E h=>?_) (fun jd A0 outer s H vs Q E hr h=>?_)
 · obtain⟨d,D,W,s,rfl,_⟩:=h
   rfl
 · obtain⟨d,D,W,st,rfl,X,hf,jK,qe,q⟩:=h
   obtain⟨π,x⟩:=id X
   have yl:D.made.length≤4000:=jK
   have sz:sizeLine=16777216:=aav
   refine⟨_,(c_ (hZ (pm1 bx (pv 0) O.gn O.iR ia hr (a_ (pv 1) d_)))
     (e_ (gG (Gp (yV zm (fU p8).names [2] rfl (B1 (gz (pv 0) rfl)) rfl (by decide+kernel) (fun _ _ _ _=>(gA (i:=2) xb.nd rfl (Or.inl rfl))) (fun _ _ _ _=>⟨_,pR (jq (oJ (by exact ic hr) (pv 2) (iU (by exact ic hr) (gz (pv 0) rfl) (pv 1) (fun _ _=>rfl)))),by(try simp only [ir]);rfl⟩) (fun _ _ _ _=>⟨_,(pv 2),by(try simp only [ir]);rfl⟩)))))),?_⟩
   refine⟨_,rfl,d,π.dx,_,rfl,x.hd,(Et _ _ _).1,_,rfl,d,D,W,st,rfl,X,hf,fun hs=>?_,fun hs=>qe hs⟩
   obtain⟨v1,_,tO,_,_,kv,v2,v3⟩:=x.vh st hs
   refine⟨_,rfl,d,A.gk,π.dx,_,_,rfl,x.hd,O.gn,O.iM,nN _ _ _,π.m,π.kM,rfl,x.hm,fun o uz=>?_⟩
   have KH:=kL x.km
   have MM:D.names.length=D.made.length:=by unfold Dk.names;rw[RF]
   have PU:d≠π.m:=i0 x.hd x.hm (fun z=>by cases z)
   have f:∀{b u},H b=some u→b≠π.m→upd H π.m (.nQ o (.dK π.kM)) b=some u:=fun{b u} e n=>by rw[de n];exact e
   refine Gr (by omega) (fun i ys σ H3=>∃(v2:Option V)(zs:List Str),σ=[some (.ref d),some (.str st),v2]∧H3=upd H π.m (.nQ o (.dK π.kM))∧ys=gh zs∧zs=(D.names.take i).filter fun x=>x∈D.held st) ⟨none,[],rfl,rfl,rfl,rfl⟩ (fun i ys σ H3 ⟨_,zs,_,e,e2,e3⟩=>?_) ?_ ?_
   · rw[e,e2,e3]
     refine⟨b_,?_⟩
     rw[RF]
     exact aac (aaH _ _) (by rw[aau];omega)
   · rintro i k v ys σ H3 hi ⟨v0,zs,rfl,rfl,rfl,e3⟩
     obtain⟨y,hy,rfl⟩:=wF x.km hi
     refine⟨_,rfl,_,rfl,d,A.gk,π.dx,_,_,rfl,f x.hd PU,O.gn,O.ip,kE _ _ _,_,rfl,π.h,.ref (π.ha st),rfl,?_,π.ha st,_,rfl,i3.k (k:=sk y) (f v2 tO),_,rfl,?_⟩
     · have:=i3.k (k:=sk st) (f x.hh x.mh.symm)
       rw[v1] at this
       exact this
     · rw[kl v3,take_snoc hy,aaF]
       by_cases hm:y∈D.held st
       · rw[UW hm]
         refine mD ⟨_,rfl,_,_,rfl,rfl,jo _ _,?_⟩
         rw[e3,XW (by simpa using hm),aaR]
       · rw[XX hm]
         refine k7 ⟨_,_,rfl,rfl,rfl,?_⟩
         rw[e3,aaf (by simpa using hm),aaR,aaB]
   · rintro ys σ H3 ⟨v0,zs,rfl,rfl,rfl,e3⟩ p qN
     rw[KH,aaj] at e3
     have FU:p≠π.m:=fun z=>by rw[z,b_] at qN;cases qN
     have FR:H p=none:=by rw[de FU] at qN;exact qN
     refine⟨π.m,o,_,by rw[de FU.symm];exact b_,uz,?_⟩
     rw[B0 x.hm FU]
     have:=q hs p FR
     unfold Dk.has at this
     rw[←e3] at this
     exact this
def QW(A:Ad):Sp:=fun vs H Q E=>∃(d:Addr)(D:Dk)(W:Addr→Prop)(s:Str),vs=[.ref d,.str s]∧ik A H d D W∧jw s∧wC D.made.length∧(s∉D.stores→E (.ref A.gj) none H)∧(s∈D.stores→∀p H',gb H H'→H p=none→ye A H' p (D.qB s)→Q (.ref p) H')
theorem tM(T:Txt mg)(O:Ok K mg A):ie P w K mg base (sH P w) 3 A.ox A.oy ["self","store"] (QW A):=by
 have jN:=FE (P:=P) (w:=w) (base:=base) T O
 refine O.mQ.f.AD nI (fun vs H Q E h=>?_) (fun jd A0 outer s H vs Q E hr h=>?_)
 · obtain⟨d,D,W,s,rfl,_⟩:=h
   rfl
 · obtain⟨d,D,W,st,rfl,X,hf,jK,qe,q⟩:=h
   obtain⟨π,x⟩:=id X
   have yl:D.made.length≤4000:=jK
   have sz:sizeLine=16777216:=aav
   have oW:(D.qB st).length≤D.made.length:=aaH _ _
   refine⟨_,(e_ (gG (qW ou (fU ko).names [2] rfl (iz (pm1 bx (pv 0) O.gn O.lP jN hr (a_ (pv 1) d_))) rfl (by decide+kernel) (fun _ _ _ _=>(gA (i:=2) nI.nd rfl (Or.inl rfl))) (fun _ _ _ _=>lC) (fun _ _ _ _=>⟨_,iU (by exact ic hr) (gz (pv 0) rfl) (pv 2) (fun _ _=>rfl),by(try simp only [ir]);rfl⟩)))),?_⟩
   refine⟨_,rfl,d,π.dx,_,rfl,x.hd,(ux _ _ _).1,_,rfl,d,D,W,st,rfl,X,hf,jK,fun hs=>qe hs,fun hs p qN=>?_⟩
   rw[Dk.Gw]
   have s1:gb H (upd H p (.lst (gh ((D.qB st).map (·.nm))))):=(gb.refl H).new qN
   have Ig:(upd H p (.lst (gh ((D.qB st).map (·.nm))))) p=some (.lst (gh ((D.qB st).map (·.nm)))):=b_
   generalize upd H p (.lst (gh ((D.qB st).map (·.nm))))=H1 at s1 Ig
   refine⟨p,rfl,⟨_,hV.of Ig⟩,j2 (K:=K) (a:=p) (xs:=gh ((D.qB st).map (·.nm))) (by rw[RF,RF];omega) (fun i ys σ H3=>∃(v2:Option V)(as:List Addr),σ=[some (.ref d),some (.str st),v2]∧H3=H1∧ys=as.map V.ref∧Paired (nS A H) as ((D.qB st).take i))
     ⟨none,[],rfl,rfl,rfl,.nil⟩ (fun i ys σ H3 _ ⟨_,as,_,e,e2,e3⟩=>?_) ?_ ?_⟩
   · rw[e,e2]
     have:=Paired.length e3
     rw[aau] at this
     exact⟨hV.of Ig,by rw[RF];omega⟩
   · rintro i v ys σ H3 hx ⟨v2,as,rfl,rfl,rfl,e3⟩
     obtain⟨y,hy,rfl⟩:=kT hx
     rw[aah] at hy
     obtain⟨pt,KI,rfl⟩:=aaA.mp hy
     have A1:pt∈D.made:=(Inv.mi.mp (VI KI)).1
     obtain⟨a,z1,z2⟩:=x.vm pt A1
     refine⟨_,rfl,d,A.gk,π.dx,_,_,rfl,s1 _ _ x.hd,O.gn,O.iM,nN _ _ _,_,rfl,π.m,.ref a,rfl,?_,?_⟩
     · have:=i3.k (k:=sk pt.nm) (s1 _ _ x.hm)
       rw[z1] at this
       exact this
     · refine⟨_,as++[a],rfl,rfl,by rw[aam];rfl,?_⟩
       rw[take_snoc KI]
       exact il e3 z2
   · rintro ys σ H3 ⟨v2,as,rfl,rfl,rfl,e3⟩ r sx
     have e0:(gh ((D.qB st).map (·.nm))).length=(D.qB st).length:=by rw[RF,RF]
     rw[e0,aaj] at e3
     have s2:=s1.new (o:=.lst (as.map V.ref)) sx
     exact q hs r _ s2 (s1.free sx) ⟨as,b_,Paired.kx e3 fun _ _ z=>z.same s2⟩
def LJ(A:Ad):Sp:=fun vs H Q E=>∃(d:Addr)(D:Dk)(W:Addr→Prop)(s f:Str),vs=[.ref d,.str s,.str f]∧ik A H d D W∧jw s∧Small D.made∧Inv D∧(s∉D.stores→E (.ref A.gj) none H)∧(s∈D.stores→∀p H',gb H H'→H p=none→FA A H' p (g_ (D.qB s) f) (D.row s f)→Q (.ref p) H')
theorem mz(T:Txt mg)(O:Ok K mg A):ie P w K mg base (sH P w) 5 A.qI A.qJ ["self","store","file"] (LJ A):=by
 have wN:=AQ (P:=P) (w:=w) (base:=base) T O
 have lT:=tM (P:=P) (w:=w) (base:=base) T O
 refine O.ki.f.AD wk (fun vs H Q E h=>?_) (fun jd A0 outer s H vs Q E hr h=>?_)
 · obtain⟨d,D,W,s,f,rfl,_⟩:=h
   rfl
 · obtain⟨d,D,W,st,f,rfl,X,hf,sm,I,qe,q⟩:=h
   obtain⟨π,x⟩:=id X
   refine⟨_,(e_ (gG (uF O.Lv wN (hr.mono (by decide)) (by rfl) O.Lw O.rQ.b .nil lg (a_ (pm1 bx (pv 0) O.gn O.mQ lT hr (a_ (pv 1) d_)) (a_ (pv 2) d_))))),?_⟩
   refine⟨_,rfl,d,π.dx,_,rfl,x.hd,(ux _ _ _).2.1,_,rfl,d,D,W,st,rfl,X,hf,sm.many,fun hs=>qe hs,fun hs a H1 s1 ha0 TX=>?_⟩
   refine⟨_,rfl,?_⟩
   intro p px np Wx nxp
   have s2:gb H1 (upd (upd H1 px (.own p)) p (.ins A.hU px [])):=fun b o e=>by
     rw[de (gg e np),de (gg e Wx)]
     exact e
   refine⟨p,px,a,D.qB st,f,rfl,b_,TX.same s2,sm.sub (Inv.yx st),I.nodup st f,I.closed hs f,I.QC st f,fun H' k sg=>⟨rfl,?_⟩⟩
   exact q hs p H' (fun b o e=>k b o (s2 b o (s1 b o e)) (gg (s1 b o e) np)) (s1.free np) sg
theorem JZ{D:Dk}(I:Inv D)(s f:Str):∀l∈D.row s f,l.nm∈(g_ (D.qB s) f).map (·.nm):=fun l hl=>aab ((lG _ f).subset ((I.zf s f).subset hl))
def N_(A:Ad):Sp:=fun vs H Q E=>∃(d:Addr)(D:Dk)(W:Addr→Prop)(s f:Str),vs=[.ref d,.str s,.str f]∧ik A H d D W∧jw s∧Small D.made∧Inv D∧(s∉D.stores→E (.ref A.gj) none H)∧(s∈D.stores→∀p H',gb H H'→H p=none→JY H' p (D.row s f)→Q (.ref p) H')
theorem FF(T:Txt mg)(O:Ok K mg A):ie P w K mg base (sH P w) 6 A.zA A.zB ["self","store","file"] (N_ A):=by
 have iN:=mz (P:=P) (w:=w) (base:=base) T O
 refine O.vk.f.AD xf (fun vs H Q E h=>?_) (fun jd A0 outer s H vs Q E hr h=>?_)
 · obtain⟨d,D,W,s,f,rfl,_⟩:=h
   rfl
 · obtain⟨d,D,W,st,f,rfl,X,hf,sm,I,qe,q⟩:=h
   obtain⟨π,x⟩:=id X
   have sz:sizeLine=16777216:=aav
   have AZ:(D.row st f).length≤4000:=aac (I.uM st f) sm.iD
   refine⟨_,(e_ (gG (qW zp (fU qa).names [3] rfl (iz (gz (pm1 bx (pv 0) O.gn O.ki iN hr (a_ (pv 1) (a_ (pv 2) d_))) rfl)) rfl (by decide+kernel) (fun _ _ _ _=>(gA (i:=3) xf.nd rfl (Or.inl rfl))) (fun _ _ _ _=>lC) (fun _ _ _ _=>⟨_,BO (a_ (iA yO (gz (pv 3) rfl) f_ (fun _ _=>rfl)) (a_ (iA yO (gz (pv 3) rfl) f_ (fun _ _=>rfl)) (a_ (gz (pv 3) rfl) d_))),by(try simp only [ir]);rfl⟩)))),?_⟩
   refine⟨_,rfl,d,π.dx,_,rfl,x.hd,(ux _ _ _).2.2.1,_,rfl,_,rfl,d,D,W,st,f,rfl,X,hf,sm,I,fun hs=>qe hs,fun hs p H1 s1 qN ⟨px,ah,l,g1,g2,⟨as,g3,g4⟩⟩=>?_⟩
   have hlen:=Paired.length g4
   refine⟨p,A.hU,px,_,_,rfl,g1,O.jQ,O.iq,ll ah l,l,rfl,⟨_,hV.of g3⟩,j2 (K:=K) (a:=l) (xs:=as.map V.ref) (by rw[RF];omega) (fun i ys σ H4=>∃(v3:Option V),σ=[some (.ref d),some (.str st),some (.str f),v3]∧gb H1 H4∧Paired (JX H4) ys ((D.row st f).take i))
     ⟨none,rfl,gb.refl _,.nil⟩ (fun i ys σ H4 _ ⟨_,_,e,e2⟩=>⟨hV.of (e _ _ g3),by rw[Paired.length e2,aau];omega⟩) ?_ ?_⟩
   · rintro i v ys σ H4 hx ⟨v3,rfl,s4,e2⟩
     obtain⟨b,hb,rfl⟩:=j7 hx
     obtain⟨ln,yk,PQ,vn,vu,vl,k1,⟨nt,rfl,k2⟩,k3,k4⟩:=iy g4 hb
     refine⟨_,rfl,b,A.gH,PQ,_,_,rfl,s4 _ _ k1,O.iK,O.gE,iW,nt,_,_,_,rfl,rfl,vK.of (s4 _ _ k2),iB (j:=0) rfl rfl,?_⟩
     refine⟨_,rfl,b,A.gH,PQ,_,_,rfl,s4 _ _ k1,O.iK,O.gE,iW,nt,_,_,_,rfl,rfl,vK.of (s4 _ _ k2),iB (j:=1) rfl rfl,?_⟩
     refine⟨_,rfl,b,A.gH,PQ,_,_,rfl,s4 _ _ k1,O.iK,O.jE,zL,L2.jK,fun t ht=>?_⟩
     have s5:=(gb.refl H4).new (o:=.tup [.str ln.nm.1,.int ln.nm.2,.str ln.tx]) ht
     refine⟨_,rfl,s4.trans s5,?_⟩
     rw[take_snoc yk]
     exact il (Paired.kx e2 fun _ _ z=>z.same s5) ⟨t,rfl,b_⟩
   · rintro ys σ H4 ⟨v3,rfl,s4,e2⟩ r sx
     rw[RF,hlen,aaj] at e2
     have s5:=(s1.trans s4).new (o:=.lst ys) sx
     exact q hs r _ s5 ((s1.trans s4).free sx) ⟨ys,b_,Paired.kx e2 fun _ _ z=>z.same ((gb.refl H4).new sx)⟩
def QX(A:Ad):Sp:=fun vs H Q E=>∃(d:Addr)(D:Dk)(W:Addr→Prop)(s f:Str),vs=[.ref d,.str s,.str f]∧ik A H d D W∧jw s∧Small D.made∧Inv D∧(s∉D.stores→E (.ref A.gj) none H)∧(s∈D.stores→∀p H' vs,gb H H'→H p=none→H' p=some (.lst vs)→iX H' (D.AF s f) vs→Q (.ref p) H')
theorem sj(T:Txt mg)(O:Ok K mg A):ie P w K mg base (sH P w) 6 A.qG A.qH ["self","store","file"] (QX A):=by
 have iN:=mz (P:=P) (w:=w) (base:=base) T O
 have kQ:=sh (P:=P) (w:=w) (base:=base) T O
 refine O.ml.f.AD wj (fun vs H Q E h=>?_) (fun jd A0 outer s H vs Q E hr h=>?_)
 · obtain⟨d,D,W,s,f,rfl,_⟩:=h
   rfl
 · obtain⟨d,D,W,st,f,rfl,X,hf,sm,I,qe,q⟩:=h
   obtain⟨π,x⟩:=id X
   have AZ:(D.row st f).length≤4000:=aac (I.uM st f) sm.iD
   refine⟨_,(e_ (gG (lA (pm1 bx (pv 0) O.gn O.ki iN hr (a_ (pv 1) (a_ (pv 2) d_))) O.jQ O.jC.t kQ (hr.mono (by decide)) O.jC.b .nil lg))),?_⟩
   refine⟨_,rfl,d,π.dx,_,rfl,x.hd,(ux _ _ _).2.2.1,_,rfl,_,rfl,d,D,W,st,f,rfl,X,hf,sm,I,fun hs=>qe hs,fun hs p H1 s1 qN sg=>?_⟩
   obtain⟨px,ah,l,g1,g2,g3⟩:=id sg
   refine⟨p,px,_,rfl,g1,JT ah l,p,_,_,rfl,sg,JZ I st f,AZ,fun r H2 vs s2 sx CN EO=>?_⟩
   exact q hs r H2 vs (s1.trans s2) (s1.free sx) CN EO
def QY(A:Ad)(n:Nat):Sp:=fun vs H Q E=>∃(d:Addr)(D:Dk)(W:Addr→Prop)(s:Str)(r:List V),vs=.ref d::.str s::r∧r.length=n∧ik A H d D W∧jw s∧Small D.made∧Inv D∧s∉D.stores∧(∀v∈r,∃f,v=.str f)∧E (.ref A.gj) none H
def X0:Sp:=fun _ _ _ _=>False
theorem FG(T:Txt mg)(O:Ok K mg A):ie P w K mg base (sH P w) 6 A.xy A.xA ["self","store","file"] (QY A 1):=by
 have iN:=mz (P:=P) (w:=w) (base:=base) T O
 have yn:ie P w K mg base lZ 1 A.qD A.qE ["self"] X0:=O.oR.f.ok we (fun vs H Q E h=>h.elim) (fun jd A0 outer s H vs Q E hr h=>h.elim)
 refine O.Bq.f.AD Ce (fun vs H Q E h=>?_) (fun jd A0 outer s H vs Q E hr h=>?_)
 · obtain⟨d,D,W,s,r,rfl,hr,_⟩:=h
   rw[XT,XT,hr];rfl
 · obtain⟨d,D,W,st,r,rfl,AZ,X,hf,sm,I,hs,hv,qe⟩:=h
   cases r with
   | nil=>cases AZ
   | cons f r=>
   cases r with
   | cons _ _=>cases AZ
   | nil=>
   obtain⟨π,x⟩:=id X
   obtain⟨f,rfl⟩:=hv f (by simp)
   refine⟨_,(e_ (gG (lA (pm1 bx (pv 0) O.gn O.ki iN hr (a_ (pv 1) (a_ (pv 2) d_))) O.jQ O.oR.t yn (hr.mono (by decide)) O.oR.b .nil lg))),?_⟩
   exact⟨_,rfl,d,π.dx,_,rfl,x.hd,(ux _ _ _).2.2.1,_,rfl,_,rfl,d,D,W,st,f,rfl,X,hf,sm,I,fun _=>qe,fun h=>absurd h hs⟩
theorem Eu(T:Txt mg)(O:Ok K mg A):ie P w K mg base (sH P w) 4 A.vb A.vc ["self","store"] (QY A 0):=by
 have lT:=tM (P:=P) (w:=w) (base:=base) T O
 have uc:ie P w K mg base lZ 1 A.nJ A.nK ["patches"] X0:=O.pI.f.ok sU (fun vs H Q E h=>h.elim) (fun jd A0 outer s H vs Q E hr h=>h.elim)
 refine O.zK.f.AD AJ (fun vs H Q E h=>?_) (fun jd A0 outer s H vs Q E hr h=>?_)
 · obtain⟨d,D,W,s,r,rfl,hr,_⟩:=h
   rw[XT,XT,hr];rfl
 · obtain⟨d,D,W,st,r,rfl,AZ,X,hf,sm,I,hs,hv,qe⟩:=h
   cases r with
   | cons _ _=>cases AZ
   | nil=>
   obtain⟨π,x⟩:=id X
   refine⟨_,(e_ (gG (pc0 O.pI uc hr (a_ (pm1 bx (pv 0) O.gn O.mQ lT hr (a_ (pv 1) d_)) d_)))),?_⟩
   exact⟨_,rfl,d,π.dx,_,rfl,x.hd,(ux _ _ _).2.1,_,rfl,d,D,W,st,rfl,X,hf,sm.many,fun _=>qe,fun h=>absurd h hs⟩
end
theorem sr{xs ys:List Str}(nd:xs.Nodup)(h:∀x∈xs,x∈ys):xs.length≤ys.length:=by
 have:=len_sub (xs:=xs.map fun k=>((k,0):Nm)) (ys:=ys.map fun k=>(k,0)) (List.pairwise_map.mpr (nd.imp fun h z=>h (congrArg Prod.fst z))) fun x hx=>by
   obtain⟨k,hk,rfl⟩:=aaz.mp hx
   exact aab (h k hk)
 rwa [RF,RF] at this
section
variable{A:Ad}{H:Hp}{x:Addr}{o:HO}{kv:List (Key×V)}
theorem mR.dk{a:Addr}{l:Ln}(h:mR A H a l)(hx:H x=some (.dK kv)):mR A (L2.upd H x o) a l:=mR.upd h hx (fun _ z=>by cases z) (fun _ _ _ z=>by cases z)
theorem qj.dk{a:Addr}{ls:List Ln}(h:qj A H a ls)(hx:H x=some (.dK kv)):qj A (L2.upd H x o) a ls:=by
 obtain⟨as,h1,h2⟩:=h
 exact⟨as,by rw[de (i0 h1 hx (fun z=>by cases z))];exact h1,Paired.kx h2 fun _ _ z=>z.dk hx⟩
theorem zM.dk{a:Addr}{ns:List Nm}(h:zM H a ns)(hx:H x=some (.dK kv)):zM (L2.upd H x o) a ns:=by
 obtain⟨vs,h1,h2⟩:=h
 exact⟨vs,by rw[de (i0 h1 hx (fun z=>by cases z))];exact h1,Paired.kx h2 fun _ _ z=>z.upd hx (fun _ z=>by cases z)⟩
theorem nS.dk{a:Addr}{p:Pt}(h:nS A H a p)(hx:H x=some (.dK kv)):nS A (L2.upd H x o) a p:=by
 obtain⟨dx,vf,pu,cu,vo,h0,h1,h2,h3,h4⟩:=h
 exact⟨dx,vf,pu,cu,vo,by rw[de (i0 h0 hx (fun z=>by cases z))];exact h0,h1,h2.dk hx,h3.dk hx,h4⟩
end
def Ew(l:List Str)(m:Str):List Str:=if m∈l then l else l++[m]
theorem Ex{l:List Str}{m x:Str}:x∈Ew l m↔x∈l∨x=m:=by
 unfold Ew
 split
 · rename_i h
   exact⟨.inl,fun z=>z.elim id fun z=>z▸h⟩
 · simp
theorem GD{l:List Str}{m:Str}(h:l.Nodup):(Ew l m).Nodup:=by
 unfold Ew
 split
 · exact h
 · rename_i hm
   rw[aaU]
   exact⟨h,by simp,fun a ha b hb z=>hm (by rw[UP.mp hb] at z;exact z▸ha)⟩
theorem BA{dk:List (Key×V)}{l:List Str}(h:dk.map (·.1)=l.map sk)(m:Str)(v:V):(putK dk (sk m) v).map (·.1)=(Ew l m).map sk:=by
 rw[pK,h]
 unfold Ew
 by_cases e:m∈l
 · rw[aap (zS.mpr e),aap e]
 · rw[aak (fun z=>e (zS.mp z)),aak e,aam];rfl
theorem BB:∀(more:List (Key×V))(dk:List (Key×V))(l r:List Str),dk.map (·.1)=l.map sk→more.map (·.1)=r.map sk→l.Nodup→∃l':List Str,(putAll dk more).map (·.1)=l'.map sk∧l'.Nodup∧∀m,m∈l'↔m∈l∨m∈r
 | [],dk,l,r,h1,h2,nd=>by
   have:r=[]:=by cases r with|nil=>rfl|cons _ _=>cases h2
   subst this
   exact⟨l,h1,nd,fun m=>by simp⟩
 | p::t,dk,l,r,h1,h2,nd=>by
   cases r with
   | nil=>cases h2
   | cons x r=>
     rw[aao,aao] at h2
     injection h2 with e1 e2
     rw[q8,e1]
     obtain⟨l',z1,z2,z3⟩:=BB t (putK dk (sk x) p.2) (Ew l x) r (BA h1 x _) e2 (GD nd)
     refine⟨l',z1,z2,fun m=>?_⟩
     rw[z3 m,Ex,XU,or_assoc]
theorem FH{kvs:List (Key×V)}{l:List Str}{x:Str}(h:kvs.map (·.1)=l.map sk):(jS kvs (sk x)).map (·.1)=(l.filter fun y=>y≠x).map sk:=by
 induction kvs generalizing l with
 | nil=>
   cases l with
   | nil=>rfl
   | cons _ _=>cases h
 | cons p r ih=>
   cases l with
   | nil=>cases h
   | cons y t=>
     rw[aao,aao] at h
     injection h with e1 e2
     by_cases e:y=x
     · rw[vP (by rw[e1,e]),ih e2,aaf (by simpa using e)]
     · rw[vQ (by rw[e1];exact fun z=>e (Sum.inr.inj z)),XW (by simpa using e),aao,aao,ih e2,e1]
def wG(D:Dk)(s:Str)(l:List Str):Dk:=⟨D.made,D.iZ,D.stores,fun t=>if t=s then l else D.held t⟩
theorem Mv.wG{A:Ad}{H:Hp}{d:Addr}{D:Dk}{W:Addr→Prop}{π:Dp}{s:Str}{l:List Str}{kv:List (Key×V)}(x:Mv A H d D W π)(hs:s∈D.stores)(hk:kv.map (·.1)=l.map sk):Mv A (upd H (π.ha s) (.dK kv)) d (PK.wG D s l) W π:=by
 obtain⟨v1,v2,v3,v4,v5,Wy,v6,v7⟩:=x.vh s hs
 exact{
   hd:=by rw[de (i0 x.hd v6 (fun z=>by cases z))];exact x.hd
   hm:=by rw[de v3.symm];exact x.hm
   hn:=by rw[de v4.symm];exact x.hn
   hh:=by rw[de v5.symm];exact x.hh
   mn:=x.mn
   mh:=x.mh
   nh:=x.nh
   wm:=x.wm
   wn:=x.wn
   wh:=x.wh
   km:=x.km
   vm:=fun p hp=>by obtain⟨a,h1,h2⟩:=x.vm p hp;exact⟨a,h1,h2.dk v6⟩
   kn:=x.kn
   vn:=fun y hy=>by
     obtain⟨a,kv,l,h1,h2,h3,h4⟩:=x.vn y hy
     exact⟨a,kv,l,h1,h2,by rw[de (fun(z:a=π.ha s)=>h2 (by rw[z];exact v2))];exact h3,h4⟩
   kh:=x.kh
   vh:=fun t ht=>by
     obtain⟨h1,h2,h3,h4,h5,kv,h6,h7⟩:=x.vh t ht
     refine⟨h1,h2,h3,h4,h5,?_⟩
     show ∃kv:List (Key×V),_∧kv.map (·.1)=(if t=s then l else D.held t).map sk
     by_cases e:t=s
     · subst e
       rw[aap rfl]
       exact⟨_,b_,hk⟩
     · rw[aak e]
       exact⟨kv,by rw[de (fun z=>e (x.inj t ht s hs z))];exact h6,h7⟩
   inj:=x.inj
   dk:=fun b hb=>by
     by_cases e:b=π.ha s
     · rw[e];exact⟨_,b_⟩
     · obtain⟨kv,h⟩:=x.dk b hb;exact⟨kv,by rw[de e];exact h⟩}
section
variable{P:Program}{w:World}{K:PySem.W.Frag}{mg:Str→Option Value}{base:Heap}{A:Ad}
def LK(A:Ad):Sp:=fun vs H Q E=>∃(d:Addr)(D:Dk)(W:Addr→Prop)(s:Str),vs=[.ref d,.str s]∧ik A H d D W∧jw s∧D.stores.length<1000∧(¬Good s→E (.ref A.i5) none H)∧(Good s→s∈D.stores→E (.ref A.iQ) none H)∧
 (Good s→s∉D.stores→∀H' W',ik A H' d (D.begin s) W'→qL W H H'→(∀b,W' b→W b∨H b=none)→Q .jv H')
theorem J0(T:Txt mg)(O:Ok K mg A):ie P w K mg base (sH P w) 2 A.u5 A.u9 ["self","store"] (LK A):=by
 have qo:=tL (P:=P) (w:=w) (base:=base) T O
 refine O.zH.f.AD AH (fun vs H Q E h=>?_) (fun jd A0 outer s H vs Q E hr h=>?_)
 · obtain⟨d,D,W,s,rfl,_⟩:=h
   rfl
 · obtain⟨d,D,W,st,rfl,X,hf,hlen,q1,q2,q3⟩:=h
   obtain⟨π,x⟩:=id X
   have sz:sizeLine=16777216:=aav
   refine⟨_,(c_ (hZ (pc1 bx O.t9 qo hr (a_ (pv 1) d_)))
     (c_ (iw (jq (oJ (by exact ic hr) (pv 1) (gz (pv 0) rfl))) (e_ (j9 bx O.rW (by rfl) (lD (iu ix (iu (mE (pv 1)) (iu ix nj)))))) hG)
     (e_ (ju (by exact ic hr) (gz (pv 0) rfl) (pv 1) ni rfl)))),?_⟩
   refine⟨_,rfl,st,rfl,hf,fun g=>?_,fun ng=>q1 ng⟩
   refine⟨_,rfl,_,rfl,d,A.gk,π.dx,_,_,rfl,x.hd,O.gn,O.ip,kE _ _ _,π.h,_,rfl,i3.k (k:=sk st) x.hh,_,rfl,?_⟩
   rw[kl x.kh]
   by_cases hs:st∈D.stores
   · rw[UW hs]
     refine mD ⟨_,rfl,by decide+kernel,⟨_,rfl,_,rfl,hf.1,_,rfl,hf.1,⟨_,rfl,by decide+kernel,fun _=>q2 g hs⟩⟩⟩
   · rw[XX hs]
     refine k7 ?_
     intro p qN
     have fr:∀{b o},H b=some o→b≠p:=fun e=>gg e qN
     have R0:(upd H p (.dK [])) π.h=some (.dK π.kH):=by rw[de (fr x.hh)];exact x.hh
     have KH:=kL x.kh
     refine⟨_,rfl,d,A.gk,π.dx,_,_,rfl,by rw[de (fr x.hd)];exact x.hd,O.gn,O.ip,kE _ _ _,_,rfl,π.h,_,rfl,mY.k (k:=sk st) R0 (by omega),?_⟩
     have s1:gb H (upd H p (.dK [])):=(gb.refl H).new qN
     have up:∀{b o},H b=some o→b≠π.h→upd (upd H p (.dK [])) π.h (.dK (putK π.kH (sk st) (.ref p))) b=some o:=fun{b o} e n=>by rw[de n];exact s1 _ _ e
     have Wz:p≠π.h:=(fr x.hh).symm
     refine q3 g hs _ (fun b=>W b∨b=p) ⟨⟨π.dx,π.m,π.n,π.h,fun t=>if t=st then p else π.ha t,π.kM,π.kN,putK π.kH (sk st) (.ref p)⟩,?_⟩ (fun b o e nw=>?_) (fun b hb=>?_)
     · exact{
         hd:=up x.hd (i0 x.hd x.hh (fun z=>by cases z))
         hm:=up x.hm x.mh
         hn:=up x.hn x.nh
         hh:=b_
         mn:=x.mn
         mh:=x.mh
         nh:=x.nh
         wm:=.inl x.wm
         wn:=.inl x.wn
         wh:=.inl x.wh
         km:=x.km
         vm:=fun q hq=>by obtain⟨a,h1,h2⟩:=x.vm q hq;exact⟨a,h1,(h2.same s1).dk R0⟩
         kn:=x.kn
         vn:=fun y hy=>by
           obtain⟨a,kv,l,h1,h2,h3,h4⟩:=x.vn y hy
           exact⟨a,kv,l,h1,fun z=>z.elim h2 (fr h3),up h3 (fun(z:a=π.h)=>h2 (by rw[z];exact x.wh)),h4⟩
         kh:=pL x.kh hs _
         vh:=fun t ht=>by
           show iL (putK π.kH (sk st) (.ref p)) (sk t)=some (.ref (if t=st then p else π.ha t))∧(W (if t=st then p else π.ha t)∨(if t=st then p else π.ha t)=p)∧(if t=st then p else π.ha t)≠π.m∧(if t=st then p else π.ha t)≠π.n∧(if t=st then p else π.ha t)≠π.h∧∃kv:List (Key×V),(upd (upd H p (.dK [])) π.h (.dK (putK π.kH (sk st) (.ref p)))) (if t=st then p else π.ha t)=some (.dK kv)∧kv.map (·.1)=(if t=st then[] else D.held t).map sk
           rw[j8]
           by_cases e:t=st
           · subst e
             rw[aap rfl,aap rfl,aap rfl]
             exact⟨rfl,.inr rfl,(fr x.hm).symm,(fr x.hn).symm,Wz,[],by rw[de Wz];exact b_,rfl⟩
           · have PV:t∈D.stores:=(aaa.mp ht).elim id fun z=>absurd (UP.mp z) e
             rw[aak (fun z=>e (Sum.inr.inj z)),aak e,aak e]
             obtain⟨h1,h2,h3,h4,h5,kv,h6,h7⟩:=x.vh t PV
             exact⟨h1,.inl h2,h3,h4,h5,kv,up h6 h5,h7⟩
         inj:=fun t ht u hu e=>by
           have e:(if t=st then p else π.ha t)=(if u=st then p else π.ha u):=e
           by_cases e1:t=st
           · by_cases e2:u=st
             · rw[e1,e2]
             · have WA:u∈D.stores:=(aaa.mp hu).elim id fun z=>absurd (UP.mp z) e2
               rw[aap e1,aak e2] at e
               obtain⟨_,_,_,_,_,kv,h6,_⟩:=x.vh u WA
               exact absurd e.symm (fr h6)
           · have PV:t∈D.stores:=(aaa.mp ht).elim id fun z=>absurd (UP.mp z) e1
             by_cases e2:u=st
             · rw[aak e1,aap e2] at e
               obtain⟨_,_,_,_,_,kv,h6,_⟩:=x.vh t PV
               exact absurd e (fr h6)
             · have WA:u∈D.stores:=(aaa.mp hu).elim id fun z=>absurd (UP.mp z) e2
               rw[aak e1,aak e2] at e
               exact x.inj t PV u WA e
         dk:=fun b hb=>by
           by_cases e:b=π.h
           · rw[e];exact⟨_,b_⟩
           · rcases hb with hb|hb
             · obtain⟨kv,h⟩:=x.dk b hb;exact⟨kv,up h e⟩
             · rw[hb];exact⟨[],by rw[de Wz];exact b_⟩}
     · exact up e (fun(z:b=π.h)=>nw (by rw[z];exact x.wh))
     · rcases hb with hb|hb
       · exact .inl hb
       · rw[hb];exact .inr qN
def QZ(A:Ad):Sp:=fun vs H Q E=>∃(d l:Addr)(D:Dk)(W:Addr→Prop)(x:Str)(fs:List Str),vs=[.ref d,.str x,.ref l]∧ik A H d D W∧H l=some (.lst (gh fs))∧fs.length≤1000∧(∀y∈x::fs,jw y)∧
 ((¬∀y∈x::fs,Good y)→∀H',gb H H'→E (.ref A.i5) none H')∧((∀y∈x::fs,Good y)→x∈D.names→∀H',gb H H'→E (.ref A.iQ) none H')∧((∀y∈x::fs,Good y)→x∉D.names→∀H',gb H H'→Q .jv H')
theorem ql(T:Txt mg)(O:Ok K mg A):ie P w K mg base (sH P w) 2 A.pG A.pH ["self","patch","files"] (QZ A):=by
 have qo:=tL (P:=P) (w:=w) (base:=base) T O
 refine O.lQ.f.AD ow (fun vs H Q E h=>?_) (fun jd A0 outer s H vs Q E hr h=>?_)
 · obtain⟨d,l,D,W,x,fs,rfl,_⟩:=h
   rfl
 · obtain⟨d,l,D,W,y,fs,rfl,X,hl,Y3,MS,q1,q2,q3⟩:=h
   obtain⟨π,x⟩:=id X
   have sz:sizeLine=16777216:=aav
   refine⟨_,(c_ (iO IV rfl (iz (gp kZ (iC (a_ (pv 1) d_)) (pv 2))) (gA (i:=3) ow.nd rfl (Or.inl rfl)) (e_ (hZ (pc1 bx O.t9 qo hr (a_ (pv 3) d_)))))
     (e_ (iw (jq (oJ (by exact ic hr) (pv 1) (gz (pv 0) rfl))) (e_ (j9 bx O.rW (by rfl) (lD (iu ix (iu (mE (pv 1)) (iu ix nj)))))) hG))),?_⟩
   refine⟨_,rfl,L2.jK,fun a ha=>?_⟩
   have s1:gb H (upd H a (.lst [V.str y])):=(gb.refl H).new ha
   refine⟨_,rfl,a,l,_,_,rfl,rfl,b_,s1 _ _ hl,by rw[RF];show 1+_≤_;omega,fun b hb=>?_⟩
   have s2:=s1.new (o:=.lst ([V.str y]++gh fs)) hb
   have OW:(upd (upd H a (.lst [V.str y])) b (.lst ([V.str y]++gh fs))) b=some (.lst (gh (y::fs))):=b_
   generalize upd (upd H a (.lst [V.str y])) b (.lst ([V.str y]++gh fs))=H2 at s2 OW
   refine⟨b,rfl,⟨_,hV.of OW⟩,jr (K:=K) (a:=b) (xs:=gh (y::fs)) (fun i σ H3=>∃v,σ=[some (.ref d),some (.str y),some (.ref l),v]∧H3=H2∧∀z∈(y::fs).take i,Good z) ⟨none,rfl,rfl,fun z hz=>by rw[abj] at hz;cases hz⟩ (fun i σ H3 _ ⟨_,_,e,_⟩=>by rw[e];exact hV.of OW) ?_ ?_⟩
   · rintro i v σ H3 hx ⟨v0,rfl,rfl,hg⟩
     obtain⟨z,hz,rfl⟩:=kT hx
     refine⟨_,rfl,z,rfl,MS z (VI hz),fun g=>?_,fun ng=>q1 (fun h=>ng (h z (VI hz))) _ s2⟩
     refine⟨_,rfl,rfl,fun t ht=>?_⟩
     rw[take_snoc hz] at ht
     rcases aaa.mp ht with ht|ht
     · exact hg t ht
     · rw[UP.mp ht];exact g
   · rintro σ H3 ⟨v0,rfl,rfl,hg⟩
     rw[RF,aaj] at hg
     refine⟨_,rfl,_,rfl,d,A.gk,π.dx,_,_,rfl,s2 _ _ x.hd,O.gn,O.iM,nN _ _ _,π.m,_,rfl,i3.k (k:=sk y) (s2 _ _ x.hm),_,rfl,?_⟩
     rw[kl x.km]
     have hf:=MS y aan
     by_cases hm:y∈D.names
     · rw[UW hm]
       exact mD ⟨_,rfl,by decide+kernel,⟨_,rfl,_,rfl,hf.1,_,rfl,hf.1,⟨_,rfl,by decide+kernel,fun _=>q2 hg hm _ s2⟩⟩⟩
     · rw[XX hm]
       exact q3 hg hm _ s2
def LL(A:Ad):Sp:=fun vs H Q E=>∃(d:Addr)(D:Dk)(W:Addr→Prop)(s:Str),vs=[.ref d,.str s]∧ik A H d D W∧jw s∧wC D.made.length∧(s∉D.names→E (.ref A.jc) none H)∧(s∈D.names→∀p,H p=none→Q (.ref p) (upd H p (.lst (gh (D.nv s)))))
theorem J2(T:Txt mg)(O:Ok K mg A):ie P w K mg base (sH P w) 2 A.u_ A.va ["self","patch"] (LL A):=by
 have vJ:=AS (P:=P) (w:=w) (base:=base) T O
 refine O.zJ.f.AD tw (fun vs H Q E h=>?_) (fun jd A0 outer s H vs Q E hr h=>?_)
 · obtain⟨d,D,W,s,rfl,_⟩:=h
   rfl
 · obtain⟨d,D,W,st,rfl,X,hf,jK,qe,q⟩:=h
   obtain⟨π,x⟩:=id X
   have yl:D.made.length≤4000:=jK
   have sz:sizeLine=16777216:=aav
   refine⟨_,(c_ (hZ (pm1 bx (pv 0) O.gn O.qK vJ hr (a_ (pv 1) d_)))
     (e_ (gG (Gp (yV uS (fU mZ).names [2] rfl (B1 (gz (pv 0) rfl)) rfl (by decide+kernel) (fun _ _ _ _=>(gA (i:=2) tw.nd rfl (Or.inl rfl))) (fun _ _ _ _=>⟨_,pR (jq (oJ (by exact ic hr) (pv 2) (iU (by exact ic hr) (gz (pv 0) rfl) (pv 1) (fun _ _=>rfl)))),by(try simp only [ir]);rfl⟩) (fun _ _ _ _=>⟨_,(pv 2),by(try simp only [ir]);rfl⟩)))))),?_⟩
   refine⟨_,rfl,d,π.dx,_,rfl,x.hd,(Et _ _ _).2.2.2.1,_,rfl,d,D,W,st,rfl,X,hf,fun hs=>?_,fun hs=>qe hs⟩
   obtain⟨a,kv,l,v1,hnw,v2,v3,_,v4⟩:=x.vn st hs
   have tO:a≠π.m:=fun z=>hnw (by rw[z];exact x.wm)
   refine⟨_,rfl,d,A.gk,π.dx,_,_,rfl,x.hd,O.gn,O.iM,nN _ _ _,π.m,π.kM,rfl,x.hm,fun o uz=>?_⟩
   have KH:=kL x.km
   have MM:D.names.length=D.made.length:=by unfold Dk.names;rw[RF]
   have PU:d≠π.m:=i0 x.hd x.hm (fun z=>by cases z)
   have f:∀{b u},H b=some u→b≠π.m→upd H π.m (.nQ o (.dK π.kM)) b=some u:=fun{b u} e n=>by rw[de n];exact e
   refine Gr (by omega) (fun i ys σ H3=>∃(v2:Option V)(zs:List Str),σ=[some (.ref d),some (.str st),v2]∧H3=upd H π.m (.nQ o (.dK π.kM))∧ys=gh zs∧zs=(D.names.take i).filter fun x=>x∈D.iZ st) ⟨none,[],rfl,rfl,rfl,rfl⟩ (fun i ys σ H3 ⟨_,zs,_,e,e2,e3⟩=>?_) ?_ ?_
   · rw[e,e2,e3]
     refine⟨b_,?_⟩
     rw[RF]
     exact aac (aaH _ _) (by rw[aau];omega)
   · rintro i k v ys σ H3 hi ⟨v0,zs,rfl,rfl,rfl,e3⟩
     obtain⟨y,hy,rfl⟩:=wF x.km hi
     refine⟨_,rfl,_,rfl,d,A.gk,π.dx,_,_,rfl,f x.hd PU,O.gn,O.i8,sQ _ _ _,_,rfl,π.n,.ref a,rfl,?_,a,_,rfl,i3.k (k:=sk y) (f v2 tO),_,rfl,?_⟩
     · have:=i3.k (k:=sk st) (f x.hn x.mn.symm)
       rw[v1] at this
       exact this
     · rw[kl v3,take_snoc hy,aaF]
       by_cases hm:y∈D.iZ st
       · rw[UW ((v4 y).mpr hm)]
         refine mD ⟨_,rfl,_,_,rfl,rfl,jo _ _,?_⟩
         rw[e3,XW (by simpa using hm),aaR]
       · rw[XX (fun z=>hm ((v4 y).mp z))]
         refine k7 ⟨_,_,rfl,rfl,rfl,?_⟩
         rw[e3,aaf (by simpa using hm),aaR,aaB]
   · rintro ys σ H3 ⟨v0,zs,rfl,rfl,rfl,e3⟩ p qN
     rw[KH,aaj] at e3
     have FU:p≠π.m:=fun z=>by rw[z,b_] at qN;cases qN
     have FR:H p=none:=by rw[de FU] at qN;exact qN
     refine⟨π.m,o,_,by rw[de FU.symm];exact b_,uz,?_⟩
     rw[B0 x.hm FU]
     have:=q hs p FR
     unfold Dk.nv at this
     rw[←e3] at this
     exact this
end
section
variable{P:Program}{w:World}{K:PySem.W.Frag}{mg:Str→Option Value}{base:Heap}{A:Ad}
def Oa(A:Ad):Sp:=fun vs H Q _=>∃(d a:Addr)(D:Dk)(W:Addr→Prop)(s:Str)(p:Pt),vs=[.ref d,.str s,.ref a]∧ik A H d D W∧Inv D∧wC D.made.length∧s∈D.stores∧nS A H a p∧p.nm∉D.names∧wC p.iD.length∧wC p.j4.length∧(∀y∈iH p,y∈D.names)∧
 ∀H',ik A H' d (D.keep s p) W→qL W H H'→Q .jv H'
theorem CC(p:Pt):(iH p).length≤p.j4.length+2*p.iD.length+1:=by
 unfold iH
 rw[VO,RF]
 have h1:=aaH (fun n:Nm=>decide (n.1≠p.nm)) (named p)
 have h2:=Bz p
 have h3:p.other.toList.length≤1:=by cases p.other<;>simp
 omega
theorem CD(T:Txt mg)(O:Ok K mg A):ie P w K mg base lZ 3 A.xB A.xC ["self","store","patch"] (Oa A):=by
 have sY:=si (P:=P) (w:=w) (base:=base) T O
 refine O.sM.f.ok qf (fun vs H Q E h=>?_) (fun jd A0 outer s H vs Q E hr h=>?_)
 · obtain⟨d,a,D,W,s,p,rfl,_⟩:=h
   rfl
 · obtain⟨d,a,D,W,st,p,rfl,X,I,jK,hs,KI,fresh,FT,EG,zZ,q⟩:=h
   obtain⟨π,x⟩:=id X
   have yl:D.made.length≤4000:=jK
   have MO:p.iD.length≤4000:=FT
   have Kr:p.j4.length≤4000:=EG
   have sz:sizeLine=16777216:=aav
   have MM:D.names.length=D.made.length:=by unfold Dk.names;rw[RF]
   have Te:=CC p
   refine⟨_,(c_ (gw (i:=3) qf.nd rfl (Or.inl rfl) ni)
     (c_ (iO PassesOwn.never rfl (iz (pc0 O.oF sY hr (a_ (pv 2) d_))) (gA (i:=4) qf.nd rfl (Or.inl rfl)) (c_ (ju (by exact ic hr) (pv 3) (pv 4) qR rfl)
     (e_ (hZ (Jt (pv 3) (iU (by exact ic hr) (gz (pv 0) rfl) (pv 4) (fun _ _=>rfl)) ⟨rfl,rfl,rfl,rfl⟩)))))
     (c_ (ju (by exact ic hr) (gz (pv 0) rfl) (gz (pv 2) rfl) (pv 3) rfl)
     (c_ (ju (by exact ic hr) (gz (pv 0) rfl) (gz (pv 2) rfl) (pv 2) rfl)
     (e_ (ju (by exact ic hr) (iU (by exact ic hr) (gz (pv 0) rfl) (pv 1) (fun _ _=>rfl)) (gz (pv 2) rfl) qR rfl)))))),?_⟩
   intro nd ON
   have s1:gb H (upd H nd (.dK [])):=(gb.refl H).new ON
   have O3:(upd H nd (.dK [])) nd=some (.dK []):=b_
   generalize upd H nd (.dK [])=H1 at s1 O3
   refine⟨_,rfl,a,p,rfl,KI.same s1,FT,EG,fun r H2 s2 sx CN=>?_⟩
   have ER:=s1.trans s2
   have hrn:r≠nd:=fun z=>by rw[z,O3] at sx;cases sx
   have TY:¬W nd:=X.jv ON
   refine⟨r,rfl,⟨_,hV.of CN⟩,jr (K:=K) (a:=r) (xs:=gh (iH p)) (fun i σ H3=>∃(v:Option V)(kv:List (Key×V))(l:List Str),σ=[some (.ref d),some (.str st),some (.ref a),some (.ref nd),v]∧(∀b o,H2 b=some o→b≠nd→H3 b=some o)∧H3 nd=some (.dK kv)∧kv.map (·.1)=l.map sk∧l.Nodup∧∀y,y∈l↔∃z∈(iH p).take i,y=z∨y∈D.iZ z)
     ⟨none,[],[],rfl,fun b o e _=>e,s2 _ _ O3,rfl,aa6,fun y=>by simp⟩ (fun i σ H3 _ ⟨_,_,_,_,e,_⟩=>hV.of (e _ _ CN hrn)) ?_ ?_⟩
   · rintro i v σ H3 hx ⟨v0,kv,l,rfl,e1,e2,e3,e4,e5⟩
     obtain⟨z,hz,rfl⟩:=kT hx
     have hzm:z∈iH p:=VI hz
     have TZ:z∈D.names:=zZ z hzm
     obtain⟨az,kz,lz,z1,z2,z3,z4,z5,z6⟩:=x.vn z TZ
     have yj:∀y∈l,y∈D.names:=fun y hy=>by
       obtain⟨t,ht,h⟩:=(e5 y).mp hy
       have Y4:=zZ t (List.mem_of_mem_take ht)
       rcases h with h|h
       · rw[h];exact Y4
       · exact I.yy Y4 h
     have V6:=sr e4 yj
     have hlz:=sr z5 fun y hy=>I.yy TZ ((z6 y).mp hy)
     have KH:=kL e3
     have hkz:=kL z4
     have YB:=jn kv (sk z) (V.bl true)
     have WB:az≠nd:=fun e=>by rw[e,ON] at z3;cases z3
     refine⟨_,rfl,_,rfl,nd,_,rfl,mY.k (k:=sk z) e2 (by omega),?_⟩
     have up:∀{b o},H b=some o→upd H3 nd (.dK (putK kv (sk z) (V.bl true))) b=some o:=fun{b o} e=>by
       have n:b≠nd:=fun z=>by rw[z,ON] at e;cases e
       rw[de n];exact e1 _ _ (ER _ _ e) n
     refine⟨_,rfl,nd,rfl,.inl ⟨_,.inl b_⟩,_,rfl,d,A.gk,π.dx,_,_,rfl,up x.hd,O.gn,O.i8,sQ _ _ _,_,rfl,π.n,.ref az,rfl,?_,az,_,kz,rfl,b_,.inl (up z3),WB.symm,by omega,?_⟩
     · have:=i3.k (k:=sk z) (up x.hn)
       rw[z1] at this
       exact this
     · obtain⟨l',w1,w2,w3⟩:=BB kz _ (Ew l z) lz (BA e3 z (V.bl true)) z4 (GD e4)
       refine⟨_,_,l',rfl,fun b o e n=>by rw[de n,de n];exact e1 b o e n,b_,w1,w2,fun y=>?_⟩
       rw[w3 y,Ex,e5 y,z6 y,take_snoc hz]
       constructor
       · rintro((⟨t,ht,h⟩|h)|h)
         · exact⟨t,aal _ ht,h⟩
         · exact⟨z,by simp,.inl h⟩
         · exact⟨z,by simp,.inr h⟩
       · rintro⟨t,ht,h⟩
         rcases aaa.mp ht with ht|ht
         · exact .inl (.inl ⟨t,ht,h⟩)
         · rw[UP.mp ht] at h
           exact h.elim (fun h=>.inl (.inr h)) .inr
   · rintro σ H3 ⟨v0,kv,l,rfl,e1,e2,e3,e4,e5⟩
     rw[RF,aaj] at e5
     have s3:gb H H3:=fun b o e=>e1 b o (ER _ _ e) (fun z=>by rw[z,ON] at e;cases e)
     obtain⟨dx,vf,pu,cu,vo,g1,g2⟩:=KI.same s3
     have y:=x.same s3
     have hnM:=kL x.km
     have hnN:=kL x.kn
     obtain⟨v1,v2,v3,v4,v5,Wy,v6,v7⟩:=y.vh st hs
     have hkv0:=kL v7
     have hhl:=sr (I.uJ st hs) fun t ht=>(I.lW st hs t ht).1
     refine⟨_,rfl,_,rfl,d,A.gk,π.dx,_,_,rfl,y.hd,O.gn,O.i8,sQ _ _ _,_,rfl,a,A.hE,dx,_,_,rfl,g1,O.jl,O.iT,rZ,π.n,_,rfl,mY.k (k:=sk p.nm) y.hn (by omega),?_⟩
     have f1:∀{b o},H3 b=some o→b≠π.n→upd H3 π.n (.dK (putK π.kN (sk p.nm) (.ref nd))) b=some o:=fun{b o} e n=>by rw[de n];exact e
     have KG:d≠π.n:=i0 y.hd y.hn (fun z=>by cases z)
     have Y5:a≠π.n:=i0 g1 y.hn (fun z=>by cases z)
     have PU:d≠π.m:=i0 y.hd y.hm (fun z=>by cases z)
     have ham:a≠π.m:=i0 g1 y.hm (fun z=>by cases z)
     refine⟨_,rfl,_,rfl,d,A.gk,π.dx,_,_,rfl,f1 y.hd KG,O.gn,O.iM,nN _ _ _,_,rfl,a,A.hE,dx,_,_,rfl,f1 g1 Y5,O.jl,O.iT,rZ,π.m,_,rfl,mY.k (k:=sk p.nm) (f1 y.hm x.mn) (by omega),?_⟩
     have f2:∀{b o},H3 b=some o→b≠π.n→b≠π.m→upd (upd H3 π.n (.dK (putK π.kN (sk p.nm) (.ref nd)))) π.m (.dK (putK π.kM (sk p.nm) (.ref a))) b=some o:=fun{b o} e n m=>by rw[de m];exact f1 e n
     refine⟨_,rfl,d,A.gk,π.dx,_,_,rfl,f2 y.hd KG PU,O.gn,O.ip,kE _ _ _,_,rfl,π.h,.ref (π.ha st),rfl,?_,_,rfl,a,A.hE,dx,_,_,rfl,f2 g1 Y5 ham,O.jl,O.iT,rZ,π.ha st,_,rfl,mY.k (k:=sk p.nm) (f2 v6 v4 v3) (by omega),?_⟩
     · have:=i3.k (k:=sk st) (f2 y.hh x.nh.symm x.mh.symm)
       rw[v1] at this
       exact this
     · have hpn:p.nm∉D.held st:=fun z=>fresh (I.lW st hs _ z).1
       have f3:∀{b o},H3 b=some o→b≠π.n→b≠π.m→b≠π.ha st→upd (upd (upd H3 π.n (.dK (putK π.kN (sk p.nm) (.ref nd)))) π.m (.dK (putK π.kM (sk p.nm) (.ref a)))) (π.ha st) (.dK (putK Wy (sk p.nm) (V.bl true))) b=some o:=fun{b o} e n m h=>by rw[de h];exact f2 e n m
       have f4:∀{b q},nS A H3 b q→nS A (upd (upd (upd H3 π.n (.dK (putK π.kN (sk p.nm) (.ref nd)))) π.m (.dK (putK π.kM (sk p.nm) (.ref a)))) (π.ha st) (.dK (putK Wy (sk p.nm) (V.bl true)))) b q:=fun z=>((z.dk y.hn).dk (f1 y.hm x.mn)).dk (f2 v6 v4 v3)
       have nW:∀{b},¬W b→b≠π.n∧b≠π.m∧b≠π.ha st:=fun{b} h=>⟨fun z=>h (by rw[z];exact x.wn),fun z=>h (by rw[z];exact x.wm),fun z=>h (by rw[z];exact v2)⟩
       refine q _ ⟨{π with kM:=putK π.kM (sk p.nm) (.ref a),kN:=putK π.kN (sk p.nm) (.ref nd)},?_⟩ fun b o e n=>f3 (s3 _ _ e) (nW n).1 (nW n).2.1 (nW n).2.2
       have FV:(D.keep st p).names=D.names++[p.nm]:=by
         show(D.made++[p]).map (·.nm)=_
         rw[aam];rfl
       exact{
         hd:=f3 y.hd KG PU (i0 y.hd v6 (fun z=>by cases z))
         hm:=by
           show upd _ (π.ha st) _ π.m=_
           rw[de v3.symm];exact b_
         hn:=by
           show upd _ (π.ha st) _ π.n=_
           rw[de v4.symm,de x.mn.symm];exact b_
         hh:=f3 y.hh x.nh.symm x.mh.symm v5.symm
         mn:=x.mn
         mh:=x.mh
         nh:=x.nh
         wm:=x.wm
         wn:=x.wn
         wh:=x.wh
         km:=by rw[FV];exact pL x.km fresh _
         vm:=fun q hq=>by
           show ∃b,iL (putK π.kM (sk p.nm) (.ref a)) (sk q.nm)=some (.ref b)∧_
           rw[j8]
           rcases aaa.mp hq with hq|hq
           · obtain⟨b,w1,w2⟩:=y.vm q hq
             have tO:q.nm≠p.nm:=fun z=>fresh (by rw[←z];exact aab hq)
             rw[aak (fun z=>tO (Sum.inr.inj z))]
             exact⟨b,w1,f4 w2⟩
           · rw[UP.mp hq,aap rfl]
             exact⟨a,rfl,f4 (KI.same s3)⟩
         kn:=by rw[FV];exact pL x.kn fresh _
         vn:=fun t ht=>by
           rw[FV] at ht
           show ∃(b:Addr)(kv:List (Key×V))(l:List Str),iL (putK π.kN (sk p.nm) (.ref nd)) (sk t)=some (.ref b)∧¬W b∧_∧kv.map (·.1)=l.map sk∧l.Nodup∧∀u,u∈l↔u∈(if t=p.nm then sJ D.iZ p else D.iZ t)
           rw[j8]
           by_cases e:t=p.nm
           · rw[aap (by rw[e]),aap e]
             refine⟨nd,kv,l,rfl,TY,f3 e2 (nW TY).1 (nW TY).2.1 (nW TY).2.2,e3,e4,fun u=>?_⟩
             rw[e5 u]
             unfold sJ
             rw[aa3]
             exact⟨fun⟨z,h1,h2⟩=>⟨z,h1,XU.mpr h2⟩,fun⟨z,h1,h2⟩=>⟨z,h1,XU.mp h2⟩⟩
           · rw[aak (fun z=>e (Sum.inr.inj z)),aak e]
             have PV:t∈D.names:=(aaa.mp ht).elim id fun z=>absurd (UP.mp z) e
             obtain⟨b,WC,l',w1,w2,w3,w4⟩:=y.vn t PV
             exact⟨b,WC,l',w1,w2,f3 w3 (nW w2).1 (nW w2).2.1 (nW w2).2.2,w4⟩
         kh:=x.kh
         vh:=fun t ht=>by
           obtain⟨h1,h2,h3,h4,h5,WC,h6,h7⟩:=y.vh t ht
           refine⟨h1,h2,h3,h4,h5,?_⟩
           show ∃kv:List (Key×V),_∧kv.map (·.1)=(if t=st then D.held st++[p.nm] else D.held t).map sk
           by_cases e:t=st
           · subst e
             rw[aap rfl]
             exact⟨_,b_,pL v7 hpn _⟩
           · rw[aak e]
             exact⟨WC,f3 h6 h4 h3 (fun z=>e (x.inj t ht st hs z)),h7⟩
         inj:=x.inj
         dk:=fun b hb=>by
           by_cases h1:b=π.ha st
           · rw[h1];exact⟨_,b_⟩
           · by_cases h2:b=π.m
             · rw[h2,de v3.symm];exact⟨_,b_⟩
             · by_cases h3:b=π.n
               · rw[h3,de v4.symm,de x.mn.symm];exact⟨_,b_⟩
               · obtain⟨kv,h⟩:=y.dk b hb
                 exact⟨kv,f3 h h3 h2 h1⟩}
end
section
variable{P:Program}{w:World}{K:PySem.W.Frag}{mg:Str→Option Value}{base:Heap}{A:Ad}
theorem HM(D:Dk)(s x:Str):D.take s x=wG D s (D.held s++D.nR s x):=rfl
theorem HN(D:Dk)(s x:Str):D.drop s x=wG D s ((D.held s).filter fun y=>y≠x):=rfl
theorem HP(D:Dk)(s:Str)(l l':List Str):wG (wG D s l) s l'=wG D s l':=by
 unfold wG
 congr 1
 funext t
 show(if t=s then l' else(if t=s then l else D.held t))=_
 by_cases e:t=s
 · rw[aap e,aap e]
 · rw[aak e,aak e,aak e]
theorem HQ(D:Dk)(s:Str):wG D s (D.held s)=D:=by
 cases D
 unfold wG
 congr 1
 funext t
 show(if t=s then _ else _)=_
 by_cases e:t=s
 · rw[aap e,e]
 · rw[aak e]
def Ob(A:Ad):Sp:=fun vs H Q E=>∃(d:Addr)(D:Dk)(W:Addr→Prop)(s c x:Str),vs=[.ref d,.str s,.str c,.str x]∧ik A H d D W∧Inv D∧wC D.made.length∧jw s∧jw c∧jw x∧
 (s∉D.stores→E (.ref A.gj) none H)∧(s∈D.stores→c∉D.stores→E (.ref A.gj) none H)∧(s∈D.stores→c∈D.stores→x∉D.held c→E (.ref A.jc) none H)∧
 (s∈D.stores→c∈D.stores→x∈D.held c→∀p H1 H',gb H H1→H1 p=none→H' p=some (.lst (gh (D.nR s x)))→ik A H' d (D.take s x) W→qL W (upd H1 p (.lst (gh (D.nR s x)))) H'→Q (.ref p) H')
theorem FJ{D:Dk}(I:Inv D){s x:Str}(hx:x∈D.names):(D.nR s x).Nodup∧∀y∈D.nR s x,y∈D.names∧y∉D.held s:=by
 refine⟨?_,fun y hy=>?_⟩
 · refine abB aaN ?_
   rw[aaU]
   refine⟨abB aaN I.nd,by simp,fun a ha b hb z=>?_⟩
   rw[UP.mp hb] at z
   subst z
   exact I.Bm hx (aar (aaq.mp ha).2)
 · obtain⟨h1,h2⟩:=aaq.mp hy
   refine⟨?_,aar h2⟩
   rcases aaa.mp h1 with h|h
   · exact(aaq.mp h).1
   · rw[UP.mp h];exact hx
theorem GF(T:Txt mg)(O:Ok K mg A):ie P w K mg base (sH P w) 3 A.xu A.xv ["self","store","source","patch"] (Ob A):=by
 have ia:=jX (P:=P) (w:=w) (base:=base) T O
 have jJ:=oV (P:=P) (w:=w) (base:=base) T O
 have CO:=J2 (P:=P) (w:=w) (base:=base) T O
 refine O.sL.f.AD lK (fun vs H Q E h=>?_) (fun jd A0 outer s H vs Q E hr h=>?_)
 · obtain⟨d,D,W,s,c,x,rfl,_⟩:=h
   rfl
 · obtain⟨d,D,W,st,c,y,rfl,X,I,jK,hf,Y6,Ii,q1,q2,q3,q4⟩:=h
   obtain⟨π,x⟩:=id X
   have yl:D.made.length≤4000:=jK
   have sz:sizeLine=16777216:=aav
   have MM:D.names.length=D.made.length:=by unfold Dk.names;rw[RF]
   refine⟨_,(c_ (hZ (pm1 bx (pv 0) O.gn O.iR ia hr (a_ (pv 1) d_)))
     (c_ (hZ (pm1 bx (pv 0) O.gn O.iR ia hr (a_ (pv 2) d_)))
     (c_ (hZ (pm1 bx (pv 0) O.gn O.kY jJ hr (a_ (pv 2) (a_ (pv 3) d_))))
     (c_ (gw (i:=4) lK.nd rfl (Or.inl rfl) (gp kZ (pm1 bx (pv 0) O.gn O.zJ CO hr (a_ (pv 3) d_)) (iC (a_ (pv 3) d_))))
     (c_ (BY (j:=5) xc (fU oh).names [6] lK.nd rfl rfl rfl (iz (pv 4)) rfl (by decide+kernel) (fun _ _ _ _=>(gA (i:=6) lK.nd rfl (Or.inl rfl))) (fun _ _ _ _=>⟨_,pR (jq (lb (by exact ic hr) (pv 6) (iU (by exact ic hr) (gz (pv 0) rfl) (pv 1) (fun _ _=>rfl)))),by(try simp only [ir]);rfl⟩) (fun _ _ _ _=>⟨_,(pv 6),by(try simp only [ir]);rfl⟩))
     (c_ (iO IV rfl (iz (pv 5)) (gA (i:=6) lK.nd rfl (Or.inl rfl)) (e_ (ju (by exact ic hr) (iU (by exact ic hr) (gz (pv 0) rfl) (pv 1) (fun _ _=>rfl)) (pv 6) qR rfl)))
     (e_ (gG (pv 5))))))))),?_⟩
   refine⟨_,rfl,d,π.dx,_,rfl,x.hd,(Et _ _ _).1,_,rfl,d,D,W,st,rfl,X,hf,fun hs=>?_,fun hs=>q1 hs⟩
   refine⟨_,rfl,d,π.dx,_,rfl,x.hd,(Et _ _ _).1,_,rfl,d,D,W,c,rfl,X,Y6,fun hc=>?_,fun hc=>q2 hs hc⟩
   refine⟨_,rfl,d,π.dx,_,rfl,x.hd,(Et _ _ _).2.2.1,_,rfl,_,rfl,d,D,W,c,y,rfl,X,Y6,Ii,hc,fun hy=>?_,fun hy=>q3 hs hc hy⟩
   have Y7:y∈D.names:=(I.lW c hc y hy).1
   have V6:(D.nv y).length≤D.names.length:=aaH _ _
   refine⟨_,rfl,d,π.dx,_,rfl,x.hd,(ux _ _ _).2.2.2.2.2.2.2.1,_,rfl,d,D,W,y,rfl,X,Ii,jK,fun h=>absurd Y7 h,fun _ p qN=>?_⟩
   have s1:=(gb.refl H).new (o:=.lst (gh (D.nv y))) qN
   refine⟨_,rfl,L2.jK,fun b hb=>?_⟩
   have s2:=s1.new (o:=.lst [V.str y]) hb
   refine⟨p,b,_,_,rfl,rfl,ig hb b_,b_,by rw[RF];show _+1≤_;omega,fun wt PL=>?_⟩
   have s3:=s2.new (o:=.lst (gh (D.nv y)++[V.str y])) PL
   have WD:(upd (upd (upd H p (.lst (gh (D.nv y)))) b (.lst [V.str y])) wt (.lst (gh (D.nv y)++[V.str y]))) wt=some (.lst (gh (D.nv y++[y]))):=by rw[b_,jo]
   generalize upd (upd (upd H p (.lst (gh (D.nv y)))) b (.lst [V.str y])) wt (.lst (gh (D.nv y)++[V.str y]))=H3 at s3 WD
   have x3:=x.same s3
   obtain⟨v1,v2,v3,v4,v5,kv,v6,v7⟩:=x3.vh st hs
   refine⟨_,rfl,wt,rfl,⟨_,hV.of WD⟩,j2 (K:=K) (a:=wt) (xs:=gh (D.nv y++[y])) (by rw[RF,VO];show _+1≤_;omega) (fun i ys σ H4=>∃(v6:Option V)(zs:List Str),σ=[some (.ref d),some (.str st),some (.str c),some (.str y),some (.ref wt),none,v6]∧H4=H3∧ys=gh zs∧zs.length≤i∧zs=((D.nv y++[y]).take i).filter fun z=>z∉D.held st)
     ⟨none,[],rfl,rfl,rfl,UU _,rfl⟩ (fun i ys σ H4 _ ⟨_,zs,_,e,e2,e3,_⟩=>by rw[e,e2];exact⟨hV.of WD,by rw[RF];exact e3⟩) ?_ ?_⟩
   · rintro i v ys σ H4 hx ⟨WE,zs,rfl,rfl,rfl,e3,e4⟩
     obtain⟨z,hz,rfl⟩:=kT hx
     refine⟨_,rfl,_,rfl,d,A.gk,π.dx,_,_,rfl,x3.hd,O.gn,O.ip,kE _ _ _,_,rfl,π.h,.ref (π.ha st),rfl,?_,π.ha st,_,rfl,i3.k (k:=sk z) v6,_,rfl,?_⟩
     · have:=i3.k (k:=sk st) x3.hh
       rw[v1] at this
       exact this
     · rw[kl v7,take_snoc hz,aaF]
       by_cases hm:z∈D.held st
       · rw[UW hm]
         refine k7 ⟨_,_,rfl,rfl,rfl,by omega,?_⟩
         rw[e4,aaf (by simpa using hm),aaR,aaB]
       · rw[XX hm]
         refine mD ⟨_,rfl,_,_,rfl,rfl,jo _ _,MG,?_⟩
         rw[e4,XW (by simpa using hm),aaR]
   · rintro ys σ H4 ⟨WE,zs,rfl,rfl,rfl,e3,e4⟩ cm Px
     have e0:(gh (D.nv y++[y])).length=(D.nv y++[y]).length:=by rw[RF]
     rw[e0,aaj] at e4
     have e4:zs=D.nR st y:=e4
     subst e4
     obtain⟨Y8,Y9⟩:=FJ (s:=st) I Y7
     have MH:=sr Y8 fun t ht=>(Y9 t ht).1
     have s4:=s3.new (o:=.lst (gh (D.nR st y))) Px
     have x4:=x.same s4
     have Ks:(upd H4 cm (.lst (gh (D.nR st y)))) cm=some (.lst (gh (D.nR st y))):=b_
     have Sv:¬W cm:=fun z=>by obtain⟨kv,e⟩:=x4.dk cm z;rw[Ks] at e;cases e
     have Mc:=fun H' a b c=>q4 hs hc hy cm H4 H' s3 Px a b c
     generalize upd H4 cm (.lst (gh (D.nR st y)))=H5 at s4 x4 Ks Mc
     refine⟨_,rfl,cm,rfl,⟨_,hV.of Ks⟩,jr (K:=K) (a:=cm) (xs:=gh (D.nR st y)) (fun i σ H6=>∃(v6:Option V)(π':Dp),σ=[some (.ref d),some (.str st),some (.str c),some (.str y),some (.ref wt),some (.ref cm),v6]∧Mv A H6 d (wG D st (D.held st++(D.nR st y).take i)) W π'∧qL W H5 H6)
       ⟨none,π,rfl,by rw[abj,aaB,HQ];exact x4,fun b o e _=>e⟩ (fun i σ H6 _ ⟨_,_,_,_,e⟩=>hV.of (e _ _ Ks Sv)) ?_ ?_⟩
     · rintro i v σ H6 hx ⟨WE,π',rfl,x6,e6⟩
       obtain⟨z,hz,rfl⟩:=kT hx
       have hi:i<(D.nR st y).length:=(RL.mp hz).1
       obtain⟨w1,w2,w3,w4,w5,Y_,w6,w7⟩:=x6.vh st hs
       have w7:Y_.map (·.1)=(D.held st++(D.nR st y).take i).map sk:=by
         rw[w7]
         show(if st=st then _ else _:List Str).map sk=_
         rw[aap rfl]
       have KH:=kL w7
       have hhl:=sr (I.uJ st hs) fun t ht=>(I.lW st hs t ht).1
       rw[VO,aau] at KH
       refine⟨_,rfl,d,A.gk,π'.dx,_,_,rfl,x6.hd,O.gn,O.ip,kE _ _ _,_,rfl,π'.h,.ref (π'.ha st),rfl,?_,_,rfl,π'.ha st,_,rfl,mY.k (k:=sk z) w6 (by omega),?_⟩
       · have:=i3.k (k:=sk st) x6.hh
         rw[w1] at this
         exact this
       · have Sw:z∉D.held st++(D.nR st y).take i:=fun hm=>by
           rcases aaa.mp hm with hm|hm
           · exact(Y9 z (VI hz)).2 hm
           · obtain⟨j,hj⟩:=aaI.mp hm
             have Ic:j<i:=by have:=(RL.mp hj).1;rw[aau] at this;omega
             rw[abm,aap Ic] at hj
             have:=(abu (RL.mp hj).1 Y8).mp (hj.trans hz.symm)
             omega
         have x7:=x6.wG (l:=D.held st++(D.nR st y).take (i+1)) (kv:=putK Y_ (sk z) (V.bl true)) hs (by rw[take_snoc hz,←aaK];exact pL w7 Sw _)
         rw[HP] at x7
         exact⟨_,π',rfl,x7,fun b o e n=>by rw[de (fun(z:b=π'.ha st)=>n (by rw[z];exact w2))];exact e6 b o e n⟩
     · rintro σ H6 ⟨WE,π',rfl,x6,e6⟩
       rw[RF,aaj,←HM] at x6
       exact⟨_,rfl,Mc H6 (e6 _ _ Ks Sv) ⟨π',x6⟩ e6⟩
def Oc(A:Ad):Sp:=fun vs H Q E=>∃(d:Addr)(D:Dk)(W:Addr→Prop)(s x:Str),vs=[.ref d,.str s,.str x]∧ik A H d D W∧Inv D∧wC D.made.length∧jw s∧jw x∧(∀z∈D.names,jw z)∧
 (s∉D.stores→E (.ref A.gj) none H)∧(s∈D.stores→x∉D.held s→E (.ref A.jc) none H)∧(s∈D.stores→x∈D.held s→(∀z∈D.held s,x∉D.iZ z)∧∀H',ik A H' d (D.drop s x) W→qL W H H'→Q .jv H')
theorem GG(T:Txt mg)(O:Ok K mg A):ie P w K mg base (sH P w) 2 A.xw A.xx ["self","store","patch"] (Oc A):=by
 have ia:=jX (P:=P) (w:=w) (base:=base) T O
 have jJ:=oV (P:=P) (w:=w) (base:=base) T O
 refine O.wx.f.AD uR (fun vs H Q E h=>?_) (fun jd A0 outer s H vs Q E hr h=>?_)
 · obtain⟨d,D,W,s,x,rfl,_⟩:=h
   rfl
 · obtain⟨d,D,W,st,y,rfl,X,I,jK,hf,Ii,hfz,q1,q2,q3⟩:=h
   obtain⟨π,x⟩:=id X
   have yl:D.made.length≤4000:=jK
   have sz:sizeLine=16777216:=aav
   refine⟨_,(c_ (hZ (pm1 bx (pv 0) O.gn O.iR ia hr (a_ (pv 1) d_)))
     (c_ (hZ (pm1 bx (pv 0) O.gn O.kY jJ hr (a_ (pv 1) (a_ (pv 2) d_))))
     (c_ (yt (iO IV rfl (B1 (iU (by exact ic hr) (gz (pv 0) rfl) (pv 1) (fun _ _=>rfl))) (gA (i:=3) uR.nd rfl (Or.inl rfl)) (e_ (iw (jq (oJ (by exact ic hr) (pv 2) (iU (by exact ic hr) (gz (pv 0) rfl) (pv 3) (fun _ _=>rfl)))) (e_ (j9 bx O.Gx (by rfl) (lD (iu (mE (pv 3)) (iu ix (iu (mE (pv 2)) nj)))))) hG))))
     (e_ (hZ (IK (iU (by exact ic hr) (gz (pv 0) rfl) (pv 1) (fun _ _=>rfl)) (pv 2) ⟨rfl,rfl,rfl,rfl⟩)))))),?_⟩
   refine⟨_,rfl,d,π.dx,_,rfl,x.hd,(Et _ _ _).1,_,rfl,d,D,W,st,rfl,X,hf,fun hs=>?_,fun hs=>q1 hs⟩
   refine⟨_,rfl,d,π.dx,_,rfl,x.hd,(Et _ _ _).2.2.1,_,rfl,_,rfl,d,D,W,st,y,rfl,X,hf,Ii,hs,fun hy=>?_,fun hy=>q2 hs hy⟩
   obtain⟨tN,q4⟩:=q3 hs hy
   obtain⟨v1,v2,v3,v4,v5,kv,v6,v7⟩:=x.vh st hs
   have Za:i3 H π.h (.str st) (some (.ref (π.ha st))):=by
     have:=i3.k (k:=sk st) x.hh
     rw[v1] at this
     exact this
   refine⟨_,rfl,d,A.gk,π.dx,_,_,rfl,x.hd,O.gn,O.ip,kE _ _ _,_,rfl,π.h,.ref (π.ha st),rfl,Za,π.ha st,kv,rfl,v6,fun o uz=>?_⟩
   have f:∀{b u},H b=some u→b≠π.ha st→upd H (π.ha st) (.nQ o (.dK kv)) b=some u:=fun{b u} e n=>by rw[de n];exact e
   have Pu:d≠π.ha st:=i0 x.hd v6 (fun z=>by cases z)
   refine I_ (d:=π.ha st) (o:=o) (kvs:=kv) (fun i σ H3=>∃(v:Option V),σ=[some (.ref d),some (.str st),some (.str y),v]∧H3=upd H (π.ha st) (.nQ o (.dK kv))) ⟨none,rfl,rfl⟩ (fun i σ H3 ⟨_,_,e⟩=>by rw[e];exact b_) ?_ ?_
   · rintro i k v σ H3 hi ⟨v0,rfl,rfl⟩
     obtain⟨z,hz,rfl⟩:=wF v7 hi
     have Zb:z∈D.held st:=VI hz
     have TZ:=(I.lW st hs z Zb).1
     obtain⟨a,ka,la,w1,w2,w3,w4,_,w6⟩:=x.vn z TZ
     refine⟨_,rfl,_,rfl,d,A.gk,π.dx,_,_,rfl,f x.hd Pu,O.gn,O.i8,sQ _ _ _,_,rfl,π.n,.ref a,rfl,?_,a,_,rfl,i3.k (k:=sk y) (f w3 (fun z=>w2 (by rw[z];exact v2))),_,rfl,?_⟩
     · have:=i3.k (k:=sk z) (f x.hn v4.symm)
       rw[w1] at this
       exact this
     · rw[kl w4,XX (fun h=>tN z Zb ((w6 y).mp h))]
       exact k7 ⟨_,rfl,rfl⟩
   · rintro σ H3 ⟨v0,rfl,rfl⟩
     refine⟨π.ha st,o,_,b_,uz,?_⟩
     rw[Bi v6]
     have CL:∃v,iL kv (sk y)=some v:=by
       have:=kl v7 y
       rw[UW hy] at this
       exact Option.isSome_iff_exists.mp this
     obtain⟨vv,hvv⟩:=CL
     refine⟨_,rfl,d,A.gk,π.dx,_,_,rfl,x.hd,O.gn,O.ip,kE _ _ _,_,rfl,π.h,.ref (π.ha st),rfl,Za,π.ha st,rfl,.inl ⟨_,.inl v6⟩,_,rfl,kv,sk y,vv,v6,rfl,hvv,?_⟩
     refine q4 _ ⟨π,?_⟩ fun b u e n=>by rw[de (fun(z:b=π.ha st)=>n (by rw[z];exact v2))];exact e
     rw[HN]
     exact x.wG hs (FH v7)
end
theorem zU(l:List Str):Paired (fun(x:Str) (v:V)=>v=.str x) l (gh l):=by
 induction l with
 | nil=>exact .nil
 | cons x r ih=>exact .cons rfl ih
theorem LM{n:Nat}{K:PySem.W.Frag}{H:Hp}{a c:Addr}{x y:List Str}(h1:hV K H a (gh x))(h2:hV K H c (gh y)):n5 K H (n+1) (.ref a) (.ref c) (decide (x=y)):=
 n5.Gn (F:=fun(x:Str) (v:V)=>v=.str x) (fun p q u v hu hv=>by subst hu hv;exact n5.IS p q) h1 h2 (zU x) (zU y)
def Mx(n:Int):Int→List Int→Prop
 | _,[]=>True
 | l,p::r=>(l≤p∧p<n)∧Mx n (p+1) r
section
variable{P:Program}{w:World}{K:PySem.W.Frag}{mg:Str→Option Value}{base:Heap}{A:Ad}
def J3(A:Ad):Sp:=fun vs H Q E=>∃(a:Addr)(ps:List Int)(n:Int),vs=[.ref a,.int n]∧H a=some (.lst (ps.map V.int))∧(∀p∈ps,p.natAbs.log2<1920)∧(Mx n 0 ps→Q .jv H)∧(¬Mx n 0 ps→E (.ref A.kS) none H)
theorem yg(T:Txt mg)(O:Ok K mg A):ie P w K mg base (sH P w) 1 A.rD A.rE ["places","size"] (J3 A):=by
 refine O.vj.f.AD kW (fun vs H Q E h=>?_) (fun jd A0 outer s H vs Q E hr h=>?_)
 · obtain⟨a,ps,n,rfl,_⟩:=h
   rfl
 · obtain⟨a,ps,n,rfl,ha,O4,q,qe⟩:=h
   refine⟨_,(c_ (gw (i:=2) kW.nd rfl (Or.inl rfl) f_)
     (e_ (iO IV rfl (iz (pv 0)) (gA (i:=3) kW.nd rfl (Or.inl rfl)) (c_ (iw (yG (Dq Iw Gf (pv 2) (pv 3) (pv 1))) (e_ (j9 bx O.Ef (by rfl) (lD (iu ix (iu (Ji (pv 3)) (iu ix nj)))))) hG)
     (e_ (gw (i:=2) kW.nd rfl (Or.inl rfl) (gp iJ (pv 3) f_))))))),?_⟩
   refine⟨_,rfl,a,rfl,⟨_,hV.of ha⟩,jr (K:=K) (a:=a) (xs:=ps.map V.int) (fun i σ H2=>∃(l:Int)(v:Option V),σ=[some (.ref a),some (.int n),some (.int l),v]∧H2=H∧(Mx n 0 ps↔Mx n l (ps.drop i))) ⟨0,none,rfl,rfl,Iff.rfl⟩ (fun i σ H2 _ ⟨_,_,_,e,_⟩=>by rw[e];exact hV.of ha) ?_ ?_⟩
   · rintro i v σ H2 hx ⟨l,v0,rfl,rfl,e⟩
     rw[aah] at hx
     obtain⟨p,hp,rfl⟩:=aaA.mp hx
     have hi:i<ps.length:=(RL.mp hp).1
     have hd:ps.drop i=p::ps.drop (i+1):=by rw[aaL hi];congr 1;exact(RL.mp hp).2
     rw[hd] at e
     have hl:=O4 p (VI hp)
     refine⟨_,rfl,_,rfl,_,_,rfl,rfl,_,rfl,?_⟩
     refine jT (fun h1=>?_) (fun h1=>?_)
     · have h1:l≤p:=by simpa using h1
       refine⟨_,rfl,_,_,rfl,rfl,_,rfl,?_⟩
       refine jT (fun h2=>?_) (fun h2=>?_)
       · have h2:¬p<n:=by simpa using h2
         refine⟨_,rfl,by decide+kernel,⟨_,rfl,_,rfl,hl,_,rfl,?_⟩⟩
         exact⟨aac (PyProof.Rows.int_text_len_1921 hl) (by decide),⟨_,rfl,by decide+kernel,fun _=>qe fun z=>h2 (e.mp z).1.2⟩⟩
       · have h2:p<n:=by simpa using h2
         refine⟨_,rfl,_,_,rfl,rfl,_,_,rfl,rfl,e.trans ⟨fun z=>z.2,fun z=>⟨⟨h1,h2⟩,z⟩⟩⟩
     · have h1:¬l≤p:=by simpa using h1
       refine⟨_,rfl,?_⟩
       refine⟨_,rfl,by decide+kernel,⟨_,rfl,_,rfl,hl,_,rfl,?_⟩⟩
       exact⟨aac (PyProof.Rows.int_text_len_1921 hl) (by decide),⟨_,rfl,by decide+kernel,fun _=>qe fun z=>h1 (e.mp z).1.1⟩⟩
   · rintro σ H2 ⟨l,v0,rfl,rfl,e⟩
     rw[RF,abL] at e
     exact q (e.mpr trivial)
def Q0(A:Ad):Sp:=fun vs H Q E=>∃(d t:Addr)(D:Dk)(W:Addr→Prop)(s x f:Str)(texts:List Str),vs=[.ref d,.str s,.str x,.str f,.ref t]∧ik A H d D W∧Inv D∧Small D.made∧(D.made.flatMap (·.iD)).length≤1000∧jw s∧jw x∧jw f∧H t=some (.lst (gh texts))∧texts.length≤1000∧
 (s∉D.stores→E (.ref A.gj) none H)∧
 (s∈D.stores→¬(Good x∧Good f)→∀H',gb H H'→E (.ref A.i5) none H')∧
 (s∈D.stores→Good x→Good f→x∈D.names→∀H',gb H H'→E (.ref A.iQ) none H')∧
 (s∈D.stores→Good x→Good f→x∉D.names→D.AF s f≠[]→∀H',gb H H'→E (.ref A.jB) none H')∧
 (s∈D.stores→Good x→Good f→x∉D.names→D.AF s f=[]→(D.row s f).map (·.tx)=texts→∀H',gb H H'→E (.ref A.oQ) none H')∧
 (s∈D.stores→Good x→Good f→x∉D.names→D.AF s f=[]→(D.row s f).map (·.tx)≠texts→∀H',ik A H' d (D.keep s (mx x f (D.row s f) texts)) W→qL W H H'→Q .jv H')
theorem lq{x f:Str}:(∀y∈[x,f],Good y)↔Good x∧Good f:=by
 constructor
 · exact fun h=>⟨h x (by simp),h f (by simp)⟩
 · rintro⟨h1,h2⟩ y hy
   rcases XU.mp hy with z|z
   · rw[z];exact h1
   · rw[UP.mp z];exact h2
theorem vC{D:Dk}(I:Inv D){s f x:Str}(hs:s∈D.stores)(texts:List Str):∀y∈iH (mx x f (D.row s f) texts),y∈D.names:=by
 intro y hy
 unfold iH at hy
 rcases aaa.mp hy with hy|hy
 · obtain⟨m,hm,rfl⟩:=aaz.mp hy
   obtain⟨hm,hn⟩:=aaq.mp hm
   have hn:m.1≠x:=aar hn
   have fin:m∈(D.row s f).map (·.nm)→m.1∈D.names:=fun h=>by
     obtain⟨l,hl,rfl⟩:=aaz.mp h
     obtain⟨p,h1,_,h3⟩:=I.uL hl
     have hp:=(Inv.mi.mp h1).1
     rw[q9 (I.HB p hp) (aab h3)]
     exact aab hp
   rcases aaa.mp hm with hm|hm
   · obtain⟨l,hl,rfl⟩:=aaz.mp hm
     exact fin (aab (aaq.mp hl).1)
   · obtain⟨l,hl,hm⟩:=aa3.mp hm
     have OO:l.up=some m∨l.lo=some m:=by
       rcases aaa.mp hm with hm|hm
       · exact .inl (by simpa using hm)
       · exact .inr (by simpa using hm)
     rcases yw texts 0 0 none l hl m OO with(z|⟨t,z⟩)|z
     · cases z
     · obtain⟨q,_,_,l',Ie,rfl⟩:=B6 z
       exact fin (aab (VI Ie))
     · rw[uI] at z
       obtain⟨j,_,rfl⟩:=aaz.mp z
       exact absurd rfl hn
 · cases hy
theorem vD{x f:Str}{row:List Ln}{texts:List Str}:(mx x f row texts).iD.length≤texts.length∧(mx x f row texts).j4.length≤row.length:=by
 have rise:=sI (row.map (·.tx)) texts
 rw[RF] at rise
 have h:=Gv rise x
 refine⟨by show(kA x texts _).length≤_;omega,?_⟩
 show((row.filter _).map _).length≤_
 rw[RF]
 exact aaH _ _
theorem BC(T:Txt mg)(O:Ok K mg A):ie P w K mg base (sH P w) 6 A.tH A.tI ["self","store","patch","file","texts"] (Q0 A):=by
 have ia:=jX (P:=P) (w:=w) (base:=base) T O
 have j0:=ql (P:=P) (w:=w) (base:=base) T O
 have iN:=mz (P:=P) (w:=w) (base:=base) T O
 have kQ:=sh (P:=P) (w:=w) (base:=base) T O
 have wO:=vB (P:=P) (w:=w) (base:=base) T O
 have mB:=CD (P:=P) (w:=w) (base:=base) T O
 refine O.rV.f.AD nH (fun vs H Q E h=>?_) (fun jd A0 outer s H vs Q E hr h=>?_)
 · obtain⟨d,t,D,W,s,x,f,texts,rfl,_⟩:=h
   rfl
 · obtain⟨d,t,D,W,st,y,f,texts,rfl,X,I,sm,WG,qM,Ii,O5,ht,OQ,q1,q2,q3,q4,q5,q6⟩:=h
   obtain⟨π,x⟩:=id X
   have sz:sizeLine=16777216:=aav
   have AZ:(D.row st f).length≤1000:=aac (I.uM st f) WG
   refine⟨_,(c_ (hZ (pm1 bx (pv 0) O.gn O.iR ia hr (a_ (pv 1) d_)))
     (c_ (hZ (pm1 bx (pv 0) O.gn O.lQ j0 hr (a_ (pv 2) (a_ (iC (a_ (pv 3) d_)) d_))))
     (c_ (gw (i:=5) nH.nd rfl (Or.inl rfl) (pm1 bx (pv 0) O.gn O.ki iN hr (a_ (pv 1) (a_ (pv 3) d_))))
     (c_ (iw (uD (lA (pv 5) O.jQ O.jC.t kQ (hr.mono (by decide)) O.jC.b .nil lg) (fun _=>rfl)) (e_ (j9 bx O.xT (by rfl) (lD (iu ix (iu (mE (pv 3)) (iu ix nj)))))) hG)
     (c_ (iw (ib (Fe 3 (by exact UT hr)) (qW tq (fU mj).names [6] rfl (iz (gz (pv 5) rfl)) rfl (by decide+kernel) (fun _ _ _ _=>(gA (i:=6) nH.nd rfl (Or.inl rfl))) (fun _ _ _ _=>lC) (fun _ _ _ _=>⟨_,gz (pv 6) rfl,by(try simp only [ir]);rfl⟩)) (pv 4) (ij _)) (e_ (j9 bx O.Fu (by rfl) (lD (iu ix (iu (mE (pv 3)) (iu ix nj)))))) hG)
     (e_ (hZ (pm0 (pv 0) O.gn O.sM mB hr (a_ (pv 1) (a_ (pc0 O.rS wO hr (a_ (pv 2) (a_ (pv 3) (a_ (gz (pv 5) rfl) (a_ (pv 4) d_))))) d_)))))))))),?_⟩
   refine⟨_,rfl,d,π.dx,_,rfl,x.hd,(Et _ _ _).1,_,rfl,d,D,W,st,rfl,X,qM,fun hs=>?_,fun hs=>q1 hs⟩
   refine⟨_,rfl,d,π.dx,_,rfl,x.hd,(Et _ _ _).2.1,_,rfl,_,rfl,L2.jK,fun l hl=>?_⟩
   have s1:gb H (upd H l (.lst [V.str f])):=(gb.refl H).new hl
   refine⟨d,l,D,W,y,[f],rfl,X.same s1,b_,by show 1≤1000;decide,fun z hz=>?_,fun h H' s'=>q2 hs (fun g=>h (lq.mpr g)) H' (s1.trans s'),fun h hn H' s'=>q3 hs (lq.mp h).1 (lq.mp h).2 hn H' (s1.trans s'),fun h hn H2 s2=>?_⟩
   · rcases XU.mp hz with z|z
     · rw[z];exact Ii
     · rw[UP.mp z];exact O5
   obtain⟨gy,gf⟩:=lq.mp h
   have ER:=s1.trans s2
   have X2:=X.same ER
   refine⟨_,rfl,d,π.dx,_,rfl,ER _ _ x.hd,(ux _ _ _).2.2.1,_,rfl,_,rfl,d,D,W,st,f,rfl,X2,qM,sm,I,fun h=>absurd hs h,fun _ p H3 s3 qN sg=>?_⟩
   obtain⟨px,ah,ln,g1,g2,⟨as,g3,g4⟩⟩:=id sg
   have Md:=ER.trans s3
   have hlen:=Paired.length g4
   refine⟨_,rfl,p,px,_,rfl,g1,JT ah ln,p,_,_,rfl,sg,JZ I st f,aac AZ (by decide),fun r H4 vs s4 sx CN EO=>?_⟩
   have MQ:=Md.trans s4
   have MN:=Paired.length EO
   by_cases hq:D.AF st f=[]
   case neg=>
     have WH:vs≠[]:=fun z=>hq (by
       have e:(kR (Ah (g_ (D.qB st) f)) (D.row st f)).length=0:=by rw[MN,z];rfl
       exact aaE.mp e)
     refine⟨true,.inl ⟨_,hV.of CN,by simpa using WH⟩,mD ?_⟩
     exact⟨_,rfl,by decide+kernel,⟨_,rfl,_,rfl,O5.1,_,rfl,O5.1,⟨_,rfl,by decide+kernel,fun _=>q4 hs gy gf hn hq _ MQ⟩⟩⟩
   have WH:vs=[]:=by
     have e:(kR (Ah (g_ (D.qB st) f)) (D.row st f)).length=0:=by rw[show kR (Ah (g_ (D.qB st) f)) (D.row st f)=[] from hq];rfl
     rw[MN] at e
     exact aaE.mp e
   refine⟨false,.inl ⟨_,hV.of CN,by rw[WH];rfl⟩,k7 ?_⟩
   have Zc:=s4 _ _ g1
   have WI:=s4 _ _ g3
   refine⟨_,rfl,p,A.hU,px,_,_,rfl,Zc,O.jQ,O.iq,ll ah ln,ln,rfl,⟨_,hV.of WI⟩,j2 (K:=K) (a:=ln) (xs:=as.map V.ref) (by rw[RF];omega) (fun i ys σ H5=>∃(v6:Option V),σ=[some (.ref d),some (.str st),some (.str y),some (.str f),some (.ref t),some (.ref p),v6]∧H5=H4∧ys=gh (((D.row st f).take i).map (·.tx)))
     ⟨none,rfl,rfl,rfl⟩ (fun i ys σ H5 _ ⟨_,_,e,e2⟩=>by rw[e,e2];exact⟨hV.of WI,by rw[RF,RF,aau];omega⟩) ?_ ?_⟩
   · rintro i v ys σ H5 hx ⟨v6,rfl,rfl,rfl⟩
     obtain⟨b,hb,rfl⟩:=j7 hx
     obtain⟨l2,EN,dx,vn,vu,vl,k1,k2,k3,k4⟩:=iy g4 hb
     refine⟨_,rfl,b,A.gH,dx,_,_,rfl,s4 _ _ k1,O.iK,O.jE,zL,_,rfl,rfl,?_⟩
     rw[take_snoc EN,aam,jo]
     rfl
   · rintro ys σ H5 ⟨v6,rfl,rfl,rfl⟩ o TQ
     rw[RF,hlen,aaj]
     have s5:=MQ.new (o:=.lst (gh ((D.row st f).map (·.tx)))) TQ
     have Me:gb H5 (upd H5 o (.lst (gh ((D.row st f).map (·.tx))))):=(gb.refl H5).new TQ
     refine⟨_,rfl,_,⟨o,t,rfl,rfl⟩,LM (hV.of b_) (hV.of (s5 _ _ ht)),_,rfl,?_⟩
     by_cases he:(D.row st f).map (·.tx)=texts
     · rw[UW he]
       refine mD ?_
       exact⟨_,rfl,by decide+kernel,⟨_,rfl,_,rfl,O5.1,_,rfl,O5.1,⟨_,rfl,by decide+kernel,fun _=>q5 hs gy gf hn hq he _ s5⟩⟩⟩
     · rw[XX he]
       refine k7 ?_
       have X5:=X.same s5
       refine⟨_,rfl,d,π.dx,_,rfl,s5 _ _ x.hd,(Et _ _ _).2.2.2.2,_,rfl,_,rfl,_,rfl,_,rfl,p,A.hU,px,_,_,rfl,Me _ _ Zc,O.jQ,O.iq,ll ah ln,_,rfl,y,f,ln,t,D.row st f,texts,rfl,⟨as,Me _ _ WI,Paired.kx g4 fun _ _ z=>(z.same s4).same Me⟩,s5 _ _ ht,AZ,OQ,fun pa H6 s6 hpa0 WJ=>?_⟩
       have Sx:=s5.trans s6
       obtain⟨cl1,cl2⟩:=vD (x:=y) (f:=f) (row:=D.row st f) (texts:=texts)
       refine⟨d,pa,D,W,st,_,rfl,X.same Sx,I,sm.many,hs,WJ,hn,aac cl1 (aac OQ (by decide)),aac cl2 (aac AZ (by decide)),vC I hs texts,fun H7 X7 s7=>?_⟩
       exact q6 hs gy gf hn hq he H7 X7 fun b o e n=>s7 b o (Sx _ _ e) n
def Od(A:Ad):Sp:=fun vs H Q E=>∃(d:Addr)(D:Dk)(W:Addr→Prop)(s x o:Str),vs=[.ref d,.str s,.str x,.str o]∧ik A H d D W∧Inv D∧wC D.made.length∧jw s∧jw x∧jw o∧
 (s∉D.stores→E (.ref A.gj) none H)∧(s∈D.stores→¬Good x→∀H',gb H H'→E (.ref A.i5) none H')∧(s∈D.stores→Good x→x∈D.names→∀H',gb H H'→E (.ref A.iQ) none H')∧
 (s∈D.stores→Good x→x∉D.names→o∉D.held s→∀H',gb H H'→E (.ref A.jc) none H')∧
 (s∈D.stores→Good x→x∉D.names→o∈D.held s→∀H',ik A H' d (D.keep s ⟨x,none,[],[],some o⟩) W→qL W H H'→Q .jv H')
theorem zV{x:Str}:(∀y∈[x],Good y)↔Good x:=⟨fun h=>h x (by simp),fun h y hy=>by rw[UP.mp hy];exact h⟩
theorem GH(T:Txt mg)(O:Ok K mg A):ie P w K mg base (sH P w) 4 A.xr A.xt ["self","store","patch","other"] (Od A):=by
 have ia:=jX (P:=P) (w:=w) (base:=base) T O
 have j0:=ql (P:=P) (w:=w) (base:=base) T O
 have jJ:=oV (P:=P) (w:=w) (base:=base) T O
 have jZ:=oU (P:=P) (w:=w) (base:=base) T O
 have mB:=CD (P:=P) (w:=w) (base:=base) T O
 refine O.wu.f.AD Cc (fun vs H Q E h=>?_) (fun jd A0 outer s H vs Q E hr h=>?_)
 · obtain⟨d,D,W,s,x,o,rfl,_⟩:=h
   rfl
 · obtain⟨d,D,W,st,y,ot,rfl,X,I,jK,qM,Ii,T1,q1,q2,q3,q4,q5⟩:=h
   obtain⟨π,x⟩:=id X
   refine⟨_,(c_ (hZ (pm1 bx (pv 0) O.gn O.iR ia hr (a_ (pv 1) d_)))
     (c_ (hZ (pm1 bx (pv 0) O.gn O.lQ j0 hr (a_ (pv 2) (a_ (iC d_) d_))))
     (c_ (hZ (pm1 bx (pv 0) O.gn O.kY jJ hr (a_ (pv 1) (a_ (pv 3) d_))))
     (e_ (hZ (pm0 (pv 0) O.gn O.sM mB hr (a_ (pv 1) (a_ (uF O.Cn jZ (hr.mono (by decide)) (by rfl) O.Co O.lO.b .nil lg (a_ (pv 2) (a_ tQ (a_ (iC d_) (a_ (iC d_) (a_ (pv 3) d_)))))) d_)))))))),?_⟩
   refine⟨_,rfl,d,π.dx,_,rfl,x.hd,(Et _ _ _).1,_,rfl,d,D,W,st,rfl,X,qM,fun hs=>?_,fun hs=>q1 hs⟩
   refine⟨_,rfl,d,π.dx,_,rfl,x.hd,(Et _ _ _).2.1,_,rfl,L2.jK,fun l hl=>?_⟩
   have s1:gb H (upd H l (.lst [])):=(gb.refl H).new hl
   refine⟨d,l,D,W,y,[],rfl,X.same s1,b_,by show 0≤1000;decide,fun z hz=>by rw[UP.mp hz];exact Ii,fun h H' s'=>q2 hs (fun g=>h (zV.mpr g)) H' (s1.trans s'),fun h hn H' s'=>q3 hs (zV.mp h) hn H' (s1.trans s'),fun h hn H2 s2=>?_⟩
   have gy:=zV.mp h
   have ER:=s1.trans s2
   refine⟨_,rfl,d,π.dx,_,rfl,ER _ _ x.hd,(Et _ _ _).2.2.1,_,rfl,_,rfl,d,D,W,st,ot,rfl,X.same ER,qM,T1,hs,fun ho=>?_,fun ho=>q4 hs gy hn ho _ ER⟩
   refine⟨_,rfl,d,π.dx,_,rfl,ER _ _ x.hd,(Et _ _ _).2.2.2.2,_,rfl,_,rfl,L2.jK,fun a ha=>⟨L2.jK,fun b hb=>⟨_,rfl,?_⟩⟩⟩
   have s3:=ER.new (o:=.lst []) ha
   have s4:=s3.new (o:=.lst []) hb
   intro o dx no O0 Wn
   refine⟨o,dx,_,_,_,_,_,rfl,b_,fun H5 r6 r7=>⟨rfl,?_⟩⟩
   have s5:gb (upd (upd H2 a (.lst [])) b (.lst [])) H5:=fun c u ec=>by
     rw[r6 c (gg ec no),de (gg ec no),de (gg ec O0)]
     exact ec
   have Zd:=s4.trans s5
   have pt:nS A H5 o ⟨y,none,[],[],some ot⟩:=⟨dx,_,a,b,.str ot,r7,rfl,⟨[],s5 _ _ (ig hb b_),.nil⟩,⟨[],s5 _ _ b_,.nil⟩,rfl⟩
   refine⟨d,o,D,W,st,_,rfl,X.same Zd,I,jK,hs,pt,hn,aaD _,aaD _,fun z hz=>?_,fun H7 X7 s7=>?_⟩
   · have:z=ot:=by simpa[iH,named] using hz
     rw[this];exact(I.lW st hs ot ho).1
   · exact q5 hs gy hn ho H7 X7 fun b o e n=>s7 b o (Zd _ _ e) n
def Q1(A:Ad):Sp:=fun vs H Q E=>∃(d t:Addr)(D:Dk)(W:Addr→Prop)(s x f:Str)(ps:List Int),vs=[.ref d,.str s,.str x,.str f,.ref t]∧ik A H d D W∧Inv D∧Small D.made∧jw s∧jw x∧jw f∧H t=some (.lst (ps.map V.int))∧ps.length≤1000∧(∀p∈ps,p.natAbs.log2<1920)∧
 (s∉D.stores→E (.ref A.gj) none H)∧
 (s∈D.stores→¬(Good x∧Good f)→∀H',gb H H'→E (.ref A.i5) none H')∧
 (s∈D.stores→Good x→Good f→x∈D.names→∀H',gb H H'→E (.ref A.iQ) none H')∧
 (s∈D.stores→Good x→Good f→x∉D.names→¬Mx (D.row s f).length 0 ps→∀H',gb H H'→E (.ref A.kS) none H')∧
 (s∈D.stores→Good x→Good f→x∉D.names→ps=[]→∀H',gb H H'→E (.ref A.oQ) none H')∧
 (s∈D.stores→Good x→Good f→x∉D.names→Mx (D.row s f).length 0 ps→ps≠[]→∀H',ik A H' d (D.keep s ⟨x,some f,[],ps.filterMap fun p=>((D.row s f)[p.toNat]?).map (·.nm),none⟩) W→qL W H H'→Q .jv H')
theorem GI{n:Int}:∀{l:Int} {ps:List Int},0≤l→Mx n l ps→∀p∈ps,0≤p∧p<n
 | _,[],_,_,p,hp=>by cases hp
 | l,q::r,h0,h,p,hp=>by
   obtain⟨⟨h1,h2⟩,h3⟩:=h
   rcases XU.mp hp with rfl|hp
   · exact⟨by omega,h2⟩
   · exact GI (by omega) h3 p hp
theorem J4(T:Txt mg)(O:Ok K mg A):ie P w K mg base (sH P w) 6 A.zy A.zz ["self","store","patch","file","places"] (Q1 A):=by
 have ia:=jX (P:=P) (w:=w) (base:=base) T O
 have j0:=ql (P:=P) (w:=w) (base:=base) T O
 have iN:=mz (P:=P) (w:=w) (base:=base) T O
 have Ab:=yg (P:=P) (w:=w) (base:=base) T O
 have jZ:=oU (P:=P) (w:=w) (base:=base) T O
 have mB:=CD (P:=P) (w:=w) (base:=base) T O
 refine O.zI.f.AD rq (fun vs H Q E h=>?_) (fun jd A0 outer s H vs Q E hr h=>?_)
 · obtain⟨d,t,D,W,s,x,f,ps,rfl,_⟩:=h
   rfl
 · obtain⟨d,t,D,W,st,y,f,ps,rfl,X,I,sm,qM,Ii,O5,ht,OQ,O4,q1,q2,q3,q4,q5,q6⟩:=h
   obtain⟨π,x⟩:=id X
   have sz:sizeLine=16777216:=aav
   have AZ:(D.row st f).length≤4000:=aac (I.uM st f) sm.iD
   refine⟨_,(c_ (hZ (pm1 bx (pv 0) O.gn O.iR ia hr (a_ (pv 1) d_)))
     (c_ (hZ (pm1 bx (pv 0) O.gn O.lQ j0 hr (a_ (pv 2) (a_ (iC (a_ (pv 3) d_)) d_))))
     (c_ (gw (i:=5) rq.nd rfl (Or.inr rfl) (gz (pm1 bx (pv 0) O.gn O.ki iN hr (a_ (pv 1) (a_ (pv 3) d_))) rfl))
     (c_ (hZ (pc1 bx O.vj Ab hr (a_ (pv 4) (a_ (gD gr (by rfl) T.jV aas (a_ (pv 5) d_)) d_))))
     (c_ (iw (yG (uD (pv 4) (fun _=>rfl))) (e_ (j9 bx O.Fu (by rfl) ix)) hG)
     (e_ (hZ (pm0 (pv 0) O.gn O.sM mB hr (a_ (pv 1) (a_ (uF O.Cn jZ (hr.mono (by decide)) (by rfl) O.Co O.lO.b .nil lg (a_ (pv 2) (a_ (pv 3) (a_ (iC d_) (a_ (qW zo (fU p9).names [6] rfl (iz (pv 4)) rfl (by decide+kernel) (fun _ _ _ _=>(gA (i:=6) rq.nd rfl (Or.inl rfl))) (fun _ _ _ _=>lC) (fun _ _ _ _=>⟨_,gz (iA h_ (pv 5) (pv 6) (fun _ _=>rfl)) rfl,by(try simp only [ir]);rfl⟩)) (a_ tQ d_)))))) d_)))))))))),?_⟩
   refine⟨_,rfl,d,π.dx,_,rfl,x.hd,(Et _ _ _).1,_,rfl,d,D,W,st,rfl,X,qM,fun hs=>?_,fun hs=>q1 hs⟩
   refine⟨_,rfl,d,π.dx,_,rfl,x.hd,(Et _ _ _).2.1,_,rfl,_,rfl,L2.jK,fun l hl=>?_⟩
   have s1:gb H (upd H l (.lst [V.str f])):=(gb.refl H).new hl
   refine⟨d,l,D,W,y,[f],rfl,X.same s1,b_,by show 1≤1000;decide,fun z hz=>?_,fun h H' s'=>q2 hs (fun g=>h (lq.mpr g)) H' (s1.trans s'),fun h hn H' s'=>q3 hs (lq.mp h).1 (lq.mp h).2 hn H' (s1.trans s'),fun h hn H2 s2=>?_⟩
   · rcases XU.mp hz with z|z
     · rw[z];exact Ii
     · rw[UP.mp z];exact O5
   obtain⟨gy,gf⟩:=lq.mp h
   have ER:=s1.trans s2
   have X2:=X.same ER
   refine⟨_,rfl,d,π.dx,_,rfl,ER _ _ x.hd,(ux _ _ _).2.2.1,_,rfl,_,rfl,d,D,W,st,f,rfl,X2,qM,sm,I,fun h=>absurd hs h,fun _ p H3 s3 qN ⟨px,ah,ln,g1,g2,⟨as,g3,g4⟩⟩=>?_⟩
   have Md:=ER.trans s3
   have hlen:=Paired.length g4
   have el:((as.map V.ref).length:Int)=((D.row st f).length:Int):=by rw[RF,hlen]
   refine⟨p,A.hU,px,_,_,rfl,g1,O.jQ,O.iq,ll ah ln,?_⟩
   refine⟨_,rfl,_,rfl,ln,_,rfl,.inl (hV.of g3),?_⟩
   rw[el]
   refine⟨t,ps,_,rfl,Md _ _ ht,O4,fun ok=>?_,fun nok=>q4 hs gy gf hn nok _ Md⟩
   by_cases T3:ps=[]
   · refine⟨_,rfl,false,.inl ⟨_,hV.of (Md _ _ ht),by rw[T3];rfl⟩,?_⟩
     exact q5 hs gy gf hn T3 _ Md
   · refine⟨_,rfl,true,.inl ⟨_,hV.of (Md _ _ ht),by simpa using T3⟩,?_⟩
     refine k7 ?_
     refine⟨_,rfl,d,π.dx,_,rfl,Md _ _ x.hd,(Et _ _ _).2.2.2.2,_,rfl,_,rfl,_,rfl,L2.jK,fun a ha=>?_⟩
     have s4:=Md.new (o:=.lst []) ha
     have O6:gb H3 (upd H3 a (.lst [])):=(gb.refl H3).new ha
     have TX:(upd H3 a (.lst [])) a=some (.lst []):=b_
     generalize upd H3 a (.lst [])=H4 at s4 O6 TX
     refine⟨_,rfl,t,rfl,⟨_,hV.of (s4 _ _ ht)⟩,j2 (K:=K) (a:=t) (xs:=ps.map V.int) (by rw[RF];omega) (fun i ys σ H5=>∃(v6:Option V),σ=[some (.ref d),some (.str st),some (.str y),some (.str f),some (.ref t),some (.ref ln),v6]∧H5=H4∧ys.length≤i∧Paired (lr H3) ys ((ps.take i).filterMap fun p=>((D.row st f)[p.toNat]?).map (·.nm)))
       ⟨none,rfl,rfl,UU _,.nil⟩ (fun i ys σ H5 _ ⟨_,_,e,e2,_⟩=>by rw[e];exact⟨hV.of (s4 _ _ ht),e2⟩) ?_ ?_⟩
     · rintro i v ys σ H5 hx ⟨v6,rfl,rfl,e2,e3⟩
       rw[aah] at hx
       obtain⟨pl,oW,rfl⟩:=aaA.mp hx
       obtain⟨b1,b2⟩:=GI (by decide) ok pl (VI oW)
       have lu:pl.toNat<(D.row st f).length:=by omega
       have EE:(D.row st f)[pl.toNat]?=some (D.row st f)[pl.toNat]:=UR lu
       obtain⟨b,hb,dx,vn,vu,vl,k1,⟨nt,rfl,k2⟩,k3,k4⟩:=zP g4 EE
       refine⟨_,rfl,_,rfl,ln,_,_,_,rfl,rfl,hV.of (O6 _ _ g3),iB (j:=pl.toNat) (by omega) hb,b,A.gH,dx,_,_,rfl,O6 _ _ k1,O.iK,O.gE,iW,?_⟩
       refine⟨_,rfl,rfl,MG,?_⟩
       rw[take_snoc oW,abn,aba,EE]
       exact il e3 ⟨nt,rfl,k2⟩
     · rintro ys σ H5 ⟨v6,rfl,rfl,e2,e3⟩ c hc
       rw[RF,aaj] at e3
       have s5:=s4.new (o:=.lst ys) hc
       intro o dx no O0 Wn
       refine⟨o,dx,_,_,_,_,_,rfl,b_,fun H6 r6 r7=>⟨rfl,?_⟩⟩
       have s6:gb (upd H5 c (.lst ys)) H6:=fun b u ec=>by
         rw[r6 b (gg ec no),de (gg ec no),de (gg ec O0)]
         exact ec
       have Sx:=s5.trans s6
       have s36:gb H3 H6:=(O6.new hc).trans s6
       have pt:nS A H6 o ⟨y,some f,[],ps.filterMap fun p=>((D.row st f)[p.toNat]?).map (·.nm),none⟩:=⟨dx,_,a,c,.jv,r7,rfl,⟨[],s6 _ _ (ig hc TX),.nil⟩,⟨ys,s6 _ _ b_,Paired.kx e3 fun _ _ z=>z.same s36⟩,rfl⟩
       have MH:(ps.filterMap fun p=>((D.row st f)[p.toNat]?).map (·.nm)).length≤4000:=aac (List.length_filterMap_le _ _) (by omega)
       refine⟨d,o,D,W,st,_,rfl,X.same Sx,I,sm.many,hs,pt,hn,aaD _,MH,fun z hz=>?_,fun H7 X7 s7=>q6 hs gy gf hn ok T3 H7 X7 fun b o e n=>s7 b o (Sx _ _ e) n⟩
       unfold iH at hz
       rcases aaa.mp hz with hz|hz
       · obtain⟨m,hm,rfl⟩:=aaz.mp hz
         have hm:=(aaq.mp hm).1
         have hm:m∈(ps.filterMap fun p=>((D.row st f)[p.toNat]?).map (·.nm)):=by simpa[named] using hm
         obtain⟨pl,_,oW⟩:=aby.mp hm
         obtain⟨l',Ie,rfl⟩:=aaA.mp oW
         obtain⟨q,h1,_,h3⟩:=I.uL (VI Ie)
         have hq:=(Inv.mi.mp h1).1
         rw[q9 (I.HB q hq) (aab h3)]
         exact aab hq
       · cases hz
end
def cellAt(ns:List Int)(k:Int):Int:=(ns[k.toNat]?).getD 0
def CF(i:Int):Str:=⟨#[(lX.cps[(i%36).toNat]?).getD 0]⟩
def jY(cell k:Int):Nat→Str
 | 0=>Str.ofString ""
 | j+1=>jY cell k j++(if(j:Int)=cell/12%(1+cell%12) then CF (k+cell/144) else CF (cell/144+5*(j:Int)+cell/5184%2*k*7))
def nameOf(cell k:Int):Str:=jY cell k (1+cell%12).toNat
theorem CG:lX.length=36:=by decide+kernel
theorem J6:lX.cps.size=36:=CG
theorem CH(a b:Str):(a++b).cps.toList=a.cps.toList++b.cps.toList:=Array.toList_append
theorem GJ(a b:Str):(a++b).length=a.length+b.length:=Array.size_append
theorem yA(i:Int):∃c,E6 lX.cps.toList (i%36)=some c∧CF i=⟨#[c]⟩∧c∈lX.cps.toList:=by
 have b:=mod_lt i 36 (by decide)
 obtain⟨c,e,ev⟩:=q0 (xs:=lX.cps.toList) b.1 (by rw[aa1,J6];exact b.2)
 rw[aaY] at ev
 exact⟨c,e,by unfold CF;rw[ev];rfl,VI (i:=(i%36).toNat) (by rw[aaY];exact ev)⟩
theorem vE(cell k:Int):∀j,(jY cell k j).length=j∧∀c∈(jY cell k j).cps.toList,c∈lX.cps.toList
 | 0=>⟨by unfold jY;decide+kernel,fun c hc=>by
     have:(jY cell k 0).cps.toList=[]:=by unfold jY;decide+kernel
     rw[this] at hc;cases hc⟩
 | j+1=>by
   have ⟨h1,h2⟩:=vE cell k j
   unfold jY
   obtain⟨c1,_,e1,m1⟩:=yA (k+cell/144)
   obtain⟨c2,_,e2,m2⟩:=yA (cell/144+5*(j:Int)+cell/5184%2*k*7)
   split
   · rw[e1,GJ,CH]
     refine⟨by rw[h1];rfl,fun c hc=>?_⟩
     rcases aaa.mp hc with hc|hc
     · exact h2 c hc
     · rw[UP.mp hc];exact m1
   · rw[e2,GJ,CH]
     refine⟨by rw[h1];rfl,fun c hc=>?_⟩
     rcases aaa.mp hc with hc|hc
     · exact h2 c hc
     · rw[UP.mp hc];exact m2
theorem pM(cell k:Int):Good (nameOf cell k):=by
 obtain⟨h1,h2⟩:=vE cell k (1+cell%12).toNat
 have b:=mod_lt cell 12 (by decide)
 exact⟨by unfold nameOf;rw[h1];omega,by unfold nameOf;rw[h1];omega,h2⟩
theorem GK{x:Str}(h:x.length≤1000)(hc:∀c∈x.cps.toList,c<1114112):jw x:=by
 refine⟨?_,h⟩
 have z:=PySem.StrLaws.reprText_len x fun c BG=>Nat.lt_trans (hc c BG) (by decide)
 omega
theorem J7:∀c∈lX.cps.toList,c<1114112:=by decide+kernel
theorem Good.ua{x:Str}(g:Good x):jw x:=GK (by have:=g.2.1;omega) fun c hc=>J7 c (g.2.2 c hc)
def zW(i:Int):Nat:=(lX.cps[(i%36).toNat]?).getD 0
theorem BD{i j:Int}(h:zW i=zW j):i%36=j%36:=by
 have key:∀a<36,∀b<36,(lX.cps[a]?).getD 0=(lX.cps[b]?).getD 0→a=b:=by decide+kernel
 have b1:=mod_lt i 36 (by decide)
 have b2:=mod_lt j 36 (by decide)
 have:=key (i%36).toNat (by omega) (j%36).toNat (by omega) h
 omega
theorem yB(cell k:Int):∀n j,j<n→(jY cell k n).cps.toList[j]?=some (if(j:Int)=cell/12%(1+cell%12) then zW (k+cell/144) else zW (cell/144+5*(j:Int)+cell/5184%2*k*7))
 | 0,j,h=>by omega
 | n+1,j,h=>by
   have hl:(jY cell k n).cps.toList.length=n:=by rw[aa1];exact(vE cell k n).1
   rw[jY,CH]
   by_cases e:j=n
   · subst e
     rw[aa4 (by omega),hl,Nat.sub_self]
     split<;>rfl
   · rw[abo (by omega)]
     exact yB cell k n j (by omega)
theorem Ey{c i j:Int}(h0:0≤i)(h1:i<36)(h2:0≤j)(h3:j<36)(h:nameOf c i=nameOf c j):i=j:=by
 have b:=mod_lt c 12 (by decide)
 have b2:=mod_lt (c/12) (1+c%12) (by omega)
 have e1:=yB c i (1+c%12).toNat (c/12%(1+c%12)).toNat (by omega)
 have e2:=yB c j (1+c%12).toNat (c/12%(1+c%12)).toNat (by omega)
 have h:jY c i (1+c%12).toNat=jY c j (1+c%12).toNat:=h
 rw[h] at e1
 rw[e1] at e2
 rw[aap (by omega),aap (by omega)] at e2
 have:=BD (aat e2)
 omega
section
variable{P:Program}{w:World}{K:PySem.W.Frag}{mg:Str→Option Value}{base:Heap}{A:Ad}
def Oe(K:PySem.W.Frag):Sp:=fun vs H Q _=>∃(a:Addr)(ns:List Int)(k:Int),vs=[.ref a,.int k]∧hV K H a (ns.map V.int)∧0≤k∧Q (.int (cellAt ns k)) H
theorem GL(T:Txt mg)(O:Ok K mg A):ie P w K mg base lZ 1 A.rH A.rJ ["script","k"] (Oe K):=by
 refine O.jD.f.ok yd (fun vs H Q E h=>?_) (fun jd A outer s H vs Q E hr h=>?_)
 · obtain⟨a,ns,k,rfl,_⟩:=h
   rfl
 · obtain⟨a,ns,k,rfl,ha,h0,q⟩:=h
   refine⟨_,(c_ (iw (ib Gf (pv 1) (gD gr (by rfl) T.jV aas (a_ (pv 0) d_)) (ij _)) (e_ (gG (iA h_ (pv 0) (pv 1) (fun _ _=>rfl)))) hG)
     (e_ (gG f_))),?_⟩
   refine⟨_,rfl,_,rfl,a,_,rfl,.inl ha,_,_,rfl,rfl,_,rfl,?_⟩
   refine jT (fun hc=>?_) (fun hc=>?_)
   · have hc:k<((ns.map V.int).length:Int):=aar hc
     obtain⟨v,e,ev⟩:=q0 h0 hc
     rw[aah] at ev
     cases en:ns[k.toNat]? with
     | none=>rw[en] at ev;cases ev
     | some z=>
       rw[en] at ev
       cases ev
       unfold cellAt at q
       rw[en] at q
       exact⟨_,rfl,_,rfl,a,_,_,_,rfl,rfl,ha,e,q⟩
   · have hc:¬k<((ns.map V.int).length:Int):=by simpa using hc
     unfold cellAt at q
     rw[RF] at hc
     rw[List.getElem?_eq_none (by omega)] at q
     exact q
def Of:Sp:=fun vs H Q _=>∃(c k:Int),vs=[.int c,.int k]∧Q (.str (nameOf c k)) H
theorem LN(T:Txt mg)(O:Ok K mg A):ie P w K mg base lZ 1 A.xF A.xG ["cell","k"] Of:=by
 refine O.sN.f.ok jh (fun vs H Q E h=>?_) (fun jd A outer s H vs Q E hr h=>?_)
 · obtain⟨c,k,rfl,_⟩:=h
   rfl
 · obtain⟨c,k,rfl,q⟩:=h
   refine⟨_,(c_ (gw (i:=2) jh.nd rfl (Or.inl rfl) ix)
     (c_ (gw (i:=3) jh.nd rfl (Or.inl rfl) (gp iJ f_ (gp iS (pv 0) f_)))
     (c_ (gw (i:=4) jh.nd rfl (Or.inl rfl) (gp j1 (pv 0) f_))
     (c_ (gw (i:=5) jh.nd rfl (Or.inl rfl) (gp qT (gp qT (gp iS (gp j1 (pv 0) f_) f_) (pv 1)) f_))
     (c_ (gw (i:=6) jh.nd rfl (Or.inl rfl) ix)
     (c_ (iO PassesOwn.never rfl (ke rfl T.lM (a_ (pv 3) d_)) (gA (i:=7) jh.nd rfl (Or.inl rfl)) (e_ (iw (ib jO (pv 7) (gp iS (gp j1 (pv 0) f_) (pv 3)) (ij _)) (e_ (gw (i:=6) jh.nd rfl (Or.inl rfl) (gp yL (pv 6) (iA E7 (pv 2) (gp iS (gp iJ (pv 1) (pv 4)) f_) (fun _ _=>rfl))))) (e_ (gw (i:=6) jh.nd rfl (Or.inl rfl) (gp yL (pv 6) (iA E7 (pv 2) (gp iS (gp iJ (gp iJ (pv 4) (gp qT f_ (pv 7))) (pv 5)) f_) (fun _ _=>rfl))))))))
     (e_ (gG (pv 6))))))))),?_⟩
   have b:=mod_lt c 12 (by decide)
   have b2:=mod_lt (c/5184) 2 (by decide)
   refine⟨_,rfl,_,_,rfl,rfl,(by show(0:Int)<12;decide),_,_,rfl,rfl,?_⟩
   refine⟨_,rfl,_,_,rfl,rfl,⟨by decide,by decide⟩,?_⟩
   refine⟨_,rfl,_,_,rfl,rfl,⟨by decide,by decide⟩,_,_,rfl,rfl,(by show(0:Int)<2;decide),_,rfl,_,_,rfl,rfl,.inl ⟨by omega,by omega⟩,_,_,rfl,rfl,.inr ⟨by decide,by decide⟩,?_⟩
   refine⟨_,rfl,_,rfl,by omega,by omega,?_⟩
   refine lY (fun j σ H2=>∃v,σ=[some (.int c),some (.int k),some (.str lX),some (.int (1+c%12)),some (.int (c/144)),some (.int (c/5184%2*k*7)),some (.str (jY c k j)),v]∧H2=H) ⟨none,rfl,rfl⟩ ?_ ?_
   · rintro j σ H2 hj ⟨v,rfl,rfl⟩
     have hlen:=(vE c k j).1
     have hz:(jY c k j).length+1≤sizeLine:=aac (m:=13) (by omega) (by decide)
     refine⟨_,rfl,_,rfl,_,_,rfl,rfl,⟨by decide,by decide⟩,_,rfl,_,_,rfl,rfl,(by show(0:Int)<1+c%12;omega),rfl,_,rfl,?_⟩
     refine jT (fun hc=>?_) (fun hc=>?_)
     · have hc:(0:Int)+(j:Int)=c/12%(1+c%12):=V.int.inj (aar hc)
       obtain⟨cp,e,es,_⟩:=yA (k+c/144)
       refine⟨_,rfl,_,rfl,_,rfl,_,rfl,_,_,rfl,rfl,_,_,rfl,rfl,(by show(0:Int)<36;decide),_,_,cp,rfl,rfl,by rw[CG];decide,e,_,_,rfl,rfl,hz,some (.int (0+(j:Int))),?_,rfl⟩
       rw[jY,aap (by omega),es]
       rfl
     · have hc:¬(0:Int)+(j:Int)=c/12%(1+c%12):=fun z=>hc (UW (congrArg V.int z))
       obtain⟨cp,e,es,_⟩:=yA (c/144+5*(j:Int)+c/5184%2*k*7)
       refine⟨_,rfl,_,rfl,_,rfl,_,rfl,_,_,rfl,rfl,.inl ⟨by decide,by decide⟩,_,_,rfl,rfl,_,rfl,_,_,rfl,rfl,_,_,rfl,rfl,(by show(0:Int)<36;decide),_,_,cp,rfl,rfl,by rw[CG];decide,by rw[Int.zero_add];exact e,_,_,rfl,rfl,hz,some (.int (0+(j:Int))),?_,rfl⟩
       rw[jY,aak (by omega),es]
       rfl
   · rintro σ H2 ⟨v,rfl,rfl⟩
     refine⟨_,rfl,?_⟩
     have:(1+c%12-0).toNat=(1+c%12).toNat:=by rw[Int.sub_zero]
     exact q
def Og:Sp:=fun vs H Q _=>∃(c k b:Int),vs=[.int c,.int k,.int b]∧0<b∧0≤k∧k≤1000∧∀x,Q (.int x) H
theorem LO(T:Txt mg)(O:Ok K mg A):ie P w K mg base lZ 1 A.xD A.xE ["cell","k","bound"] Og:=by
 refine O.Br.f.ok qg (fun vs H Q E h=>?_) (fun jd A outer s H vs Q E hr h=>?_)
 · obtain⟨c,k,b,rfl,_⟩:=h
   rfl
 · obtain⟨c,k,b,rfl,hb,PR,Sn,q⟩:=h
   refine⟨_,(c_ (gw (i:=3) qg.nd rfl (Or.inl rfl) (gp iS (gp qT (gp iJ (gp iJ (gp iS (pv 0) f_) (gp qT f_ (pv 1))) f_) f_) f_))
     (c_ (gw (i:=3) qg.nd rfl (Or.inl rfl) (gp iS (gp qT (gp iJ (pv 3) (gp qT f_ (gp iJ (pv 1) f_))) f_) f_))
     (e_ (gG (gp iS (gp j1 (pv 3) f_) (pv 2)))))),?_⟩
   refine⟨_,rfl,_,_,rfl,rfl,(by show(0:Int)<2147483647;decide),_,rfl,_,_,rfl,rfl,.inl ⟨by decide,by decide⟩,_,_,rfl,rfl,_,_,rfl,rfl,_,_,rfl,rfl,.inr ⟨by decide,by decide⟩,_,_,rfl,rfl,(by show(0:Int)<2147483647;decide),?_⟩
   refine⟨_,rfl,_,rfl,_,_,rfl,rfl,_,_,rfl,rfl,.inl ⟨by decide,by decide⟩,_,_,rfl,rfl,_,_,rfl,rfl,.inr ⟨by decide,by decide⟩,_,_,rfl,rfl,(by show(0:Int)<2147483629;decide),?_⟩
   exact⟨_,rfl,_,_,rfl,rfl,⟨by decide,by decide⟩,_,rfl,_,_,rfl,rfl,hb,q _⟩
def wH:Str:=Str.ofString " !#$&()*+,-./0123456789:;<=>?@ABCDEFGHIJKLMNOPQRSTUVWXYZ[]^_abcdefghijklmnopqrstuvwxyz{|}~"
theorem sR:wH.length=90:=by decide+kernel
def Oh:Sp:=fun vs H Q _=>∃(c:Int),vs=[.int c]∧∀x H',gb H H'→Q (.str x) H'
theorem Ez:∀(xs:List Str),(∀x∈xs,x.length=1)→(xs.map (·.length)).sum=xs.length
 | [],_=>rfl
 | x::r,h=>by
   rw[aao,List.sum_cons,h x aan,Ez r fun y hy=>h y (aag _ hy),XT]
   omega
theorem LP(T:Txt mg)(O:Ok K mg A):ie P w K mg base lZ 1 A.xH A.xI ["cell"] Oh:=by
 refine O.wy.f.ok lL (fun vs H Q E h=>?_) (fun jd A outer s H vs Q E hr h=>?_)
 · obtain⟨c,rfl,_⟩:=h
   rfl
 · obtain⟨c,rfl,q⟩:=h
   refine⟨_,(c_ (gw (i:=1) lL.nd rfl (Or.inr rfl) ix)
     (c_ (iw (ib jO (gp iS (pv 0) f_) f_ (ij _)) (e_ (gG (iA h_ (iC (a_ ix (a_ ix (a_ ix (a_ ix d_))))) (gp iS (gp j1 (pv 0) f_) f_) (fun _ _=>rfl)))) hG)
     (c_ (gw (i:=2) lL.nd rfl (Or.inl rfl) (gp iS (gp j1 (pv 0) f_) f_))
     (c_ (qZ (iw (ib jO (gp iS (gp j1 (pv 0) f_) f_) f_ (ij _)) (e_ (gw (i:=2) lL.nd rfl (Or.inl rfl) f_)) hG))
     (e_ (gG (qy PySem.F.plainAttrs_str PySem.F.slot_str_join PySem.F.type_str_join Ld ix (a_ (qW xg (fU oj).names [3] rfl (ke rfl T.lM (a_ (pv 2) d_)) rfl (by decide+kernel) (fun _ _ _ _=>(gA (i:=3) lL.nd rfl (Or.inl rfl))) (fun _ _ _ _=>lC) (fun _ _ _ _=>⟨_,iA E7 (pv 1) (gp iS (gp iJ (gp j1 (pv 0) f_) (gp qT f_ (pv 3))) (gD uH (by rfl) T.jV aas (a_ (pv 1) d_))) (fun _ _=>rfl),by(try simp only [ir]);rfl⟩)) d_)))))))),?_⟩
   refine⟨_,rfl,_,_,rfl,rfl,(by show(0:Int)<3;decide),rfl,_,rfl,?_⟩
   refine jT (fun _=>?_) (fun _=>?_)
   · refine⟨jK,fun l hl=>?_⟩
     refine⟨_,rfl,_,_,rfl,rfl,⟨by decide,by decide⟩,_,_,rfl,rfl,(by show(0:Int)<4;decide),?_⟩
     have b:=mod_lt (c/3) 4 (by decide)
     obtain⟨v,e,ev⟩:=q0 (xs:=[V.str (Str.ofString "a"),V.str (Str.ofString "b"),V.str (Str.ofString ""),V.str (Str.ofString " ")]) b.1 (by simpa using b.2)
     refine⟨l,_,_,v,rfl,rfl,hV.of b_,e,?_⟩
     have hv:∃x,v=V.str x:=by
       have hm:=VI ev
       simp at hm
       rcases hm with rfl|rfl|rfl|rfl<;>exact⟨_,rfl⟩
     obtain⟨x,rfl⟩:=hv
     exact q x _ ((gb.refl H).new hl)
   · refine⟨_,rfl,_,_,rfl,rfl,⟨by decide,by decide⟩,_,_,rfl,rfl,(by show(0:Int)<5;decide),?_⟩
     have b:=mod_lt (c/3) 5 (by decide)
     refine⟨fun σ H2=>∃(z:Int)(v:Option V),σ=[some (.int c),some (.str wH),some (.int z),v]∧H2=H∧0≤z∧z≤80,?_,?_⟩
     · refine⟨_,rfl,_,_,rfl,rfl,⟨by decide,by decide⟩,_,_,rfl,rfl,(by show(0:Int)<9;decide),rfl,_,rfl,?_⟩
       refine jT (fun _=>?_) (fun _=>?_)
       · exact⟨80,_,rfl,rfl,by decide,by decide⟩
       · exact⟨_,_,rfl,rfl,b.1,by omega⟩
     · rintro σ H2 ⟨z,v,rfl,rfl,z0,z1⟩
       refine⟨rfl,_,rfl,_,rfl,by omega,by omega,?_⟩
       refine qX (by have:sizeLine=2 ^ 24:=rfl;omega) (fun m ys σ H3=>∃(v:Option V)(xs:List Str),σ=[some (.int c),some (.str wH),some (.int z),v]∧H3=H2∧ys=gh xs∧xs.length=m∧∀x∈xs,x.length=1)
         ⟨none,[],rfl,rfl,rfl,rfl,fun x hx=>nomatch hx⟩ (fun i ys σ H ⟨_,xs,_,_,e,e2,_⟩=>by rw[e,RF];omega) ?_ ?_
       · rintro m ys σ H3 hm ⟨v,xs,rfl,rfl,rfl,hx,h1⟩
         refine⟨_,rfl,_,rfl,_,_,rfl,rfl,⟨by decide,by decide⟩,_,rfl,_,_,rfl,rfl,.inl ⟨by decide,by decide⟩,_,_,rfl,rfl,_,rfl,_,rfl,by rw[sR];decide,_,_,rfl,rfl,(by show(0:Int)<(wH.length:Int);rw[sR];decide),?_⟩
         have b:=mod_lt (c/45+7*(0+(m:Int))) (wH.length:Int) (by rw[sR];decide)
         obtain⟨cp,e,_⟩:=q0 (xs:=wH.cps.toList) b.1 (by rw[aa1];exact b.2)
         refine⟨_,_,cp,rfl,rfl,by rw[sR];decide,e,?_⟩
         refine⟨_,xs++[⟨#[cp]⟩],rfl,rfl,jo _ _,by rw[VO,hx];rfl,fun x Sy=>?_⟩
         rcases aaa.mp Sy with Sy|Sy
         · exact h1 x Sy
         · rw[UP.mp Sy];rfl
       · rintro ys σ H3 ⟨v,xs,rfl,rfl,rfl,hx,h1⟩ p hp
         refine⟨_,p,xs,rfl,rfl,hV.of b_,?_,?_⟩
         · rw[Ez xs h1]
           have:(Str.ofString "").length=0:=by decide+kernel
           rw[this]
           omega
         · exact q _ _ ((gb.refl H3).new hp)
end
theorem vF(l:List Str)(k:Nat):uG (gh l) none (some (k:Int))=gh (l.take k):=by
 unfold uG
 rw[HT.Dw,HT.Gi,Nat.sub_zero,List.drop_zero]
 unfold gh
 rw[RF,←List.map_take]
 congr 1
 by_cases h:k≤l.length
 · rw[Nat.min_eq_left h]
 · rw[Nat.min_eq_right (by omega),List.take_of_length_le (UU _),List.take_of_length_le (by omega)]
theorem EA(l:List Str)(k:Nat):uG (gh l) (some (k:Int)) none=gh (l.drop k):=by
 unfold uG
 rw[HT.Dw,HT.Gi,List.take_of_length_le (by rw[List.length_drop];exact UU _)]
 unfold gh
 rw[RF,←List.map_drop]
 congr 1
 by_cases h:k≤l.length
 · rw[Nat.min_eq_left h]
 · rw[Nat.min_eq_right (by omega),List.drop_of_length_le (UU _),List.drop_of_length_le (by omega)]
theorem wI(l:List Str){z:Int}{k:Nat}(h:z=(k:Int)):uG (gh l) (some z) none=gh (l.drop k):=by rw[h,EA]
structure FK(ts KJ:List Str):Prop where
 ne:ts≠KJ
 len:KJ.length≤ts.length+3
 near:KJ.length≤K01.lcs ts KJ+3
theorem zX{x y s:List Str}(h1:s.Sublist x)(h2:s.Sublist y):s.length≤K01.lcs x y:=(K01.j3 x y).1 s h1 h2
theorem CI{ts KJ:List Str}(h:ts.length≠KJ.length):ts≠KJ:=fun z=>h (congrArg List.length z)
theorem HR(ts:List Str)(k:Nat)(x:Str):FK ts (ts.take k++[x]++ts.drop k):=by
 have hl:(ts.take k++[x]++ts.drop k).length=ts.length+1:=by simp;omega
 have hs:ts.Sublist (ts.take k++[x]++ts.drop k):=by
   conv=>lhs;rw[←abf k ts]
   rw[aaK]
   exact(aax _).append (aaW _ _)
 have:=zX (aax ts) hs
 exact⟨CI (by omega),by omega,by omega⟩
theorem J9(ts:List Str)(k:Nat)(h:k<ts.length):FK ts (ts.take k++ts.drop (k+1)):=by
 have hl:(ts.take k++ts.drop (k+1)).length=ts.length-1:=by simp;omega
 have hs:(ts.take k++ts.drop (k+1)).Sublist ts:=by
   conv=>rhs;rw[←abf k ts]
   refine(aax _).append ?_
   rw[aaL h]
   exact aa_ _ _
 have:=zX hs (aax _)
 exact⟨CI (by omega),by omega,by omega⟩
theorem FL(ts:List Str)(k:Nat)(x:Str)(h:k<ts.length)(hx:ts[k]≠x):FK ts (ts.take k++[x]++ts.drop (k+1)):=by
 have hl:(ts.take k++[x]++ts.drop (k+1)).length=ts.length:=by simp;omega
 have hs:(ts.take k++ts.drop (k+1)).Sublist ts:=by
   conv=>rhs;rw[←abf k ts]
   refine(aax _).append ?_
   rw[aaL h]
   exact aa_ _ _
 have Im:(ts.take k++ts.drop (k+1)).Sublist (ts.take k++[x]++ts.drop (k+1)):=by
   rw[aaK]
   exact(aax _).append (aaW _ _)
 have:=zX hs Im
 have EN:(ts.take k++ts.drop (k+1)).length=ts.length-1:=by simp;omega
 refine⟨fun z=>hx ?_,by omega,by omega⟩
 have e:ts[k]?=(ts.take k++[x]++ts.drop (k+1))[k]?:=by rw[←z]
 rw[aaK,aa4 (by rw[aau];omega),aau,show k-min k ts.length=0 by omega,UR h] at e
 exact aat e
theorem FN(ts:List Str)(k:Nat)(x y z:Str):FK ts ([x]++(ts.take k++[y]++ts.drop k)++[z]):=by
 have hl:([x]++(ts.take k++[y]++ts.drop k)++[z]).length=ts.length+3:=by simp;omega
 have hs:ts.Sublist ([x]++(ts.take k++[y]++ts.drop k)++[z]):=by
   refine List.Sublist.trans ?_ (List.sublist_append_left _ _)
   refine List.Sublist.trans ?_ (aaW _ _)
   conv=>lhs;rw[←abf k ts]
   rw[aaK]
   exact(aax _).append (aaW _ _)
 have:=zX (aax ts) hs
 exact⟨CI (by omega),by omega,by omega⟩
theorem HS(ts:List Str)(k:Nat)(x y z:Str)(h:k+1<ts.length):FK ts (ts.take k++[x,y,z]++ts.drop (k+2)):=by
 have hl:(ts.take k++[x,y,z]++ts.drop (k+2)).length=ts.length+1:=by simp;omega
 have hs:(ts.take k++ts.drop (k+2)).Sublist ts:=by
   conv=>rhs;rw[←abf k ts]
   refine(aax _).append ?_
   exact K01.za (by omega)
 have Im:(ts.take k++ts.drop (k+2)).Sublist (ts.take k++[x,y,z]++ts.drop (k+2)):=by
   rw[aaK]
   exact(aax _).append (aaW _ _)
 have:=zX hs Im
 have EN:(ts.take k++ts.drop (k+2)).length=ts.length-2:=by simp;omega
 exact⟨CI (by omega),by omega,by omega⟩
section
variable{P:Program}{w:World}{K:PySem.W.Frag}{mg:Str→Option Value}{base:Heap}{A:Ad}
def Oi:Sp:=fun vs H Q _=>∃(t:Addr)(ts:List Str)(c:Int),vs=[.ref t,.int c]∧H t=some (.lst (gh ts))∧ts.length≤900∧∀p H' KJ,gb H H'→H' p=some (.lst (gh KJ))→FK ts KJ→Q (.ref p) H'
theorem LQ(T:Txt mg)(O:Ok K mg A):ie P w K mg base lZ 2 A.xJ A.xK ["texts","cell"] Oi:=by
 have xV:=LP (P:=P) (w:=w) (base:=base) T O
 refine O.Bs.f.ok j5 (fun vs H Q E h=>?_) (fun jd A outer s H vs Q E hr h=>?_)
 · obtain⟨t,ts,c,rfl,_⟩:=h
   rfl
 · obtain⟨t,ts,c,rfl,ht,hl,q⟩:=h
   have sz:sizeLine=16777216:=aav
   have et:((gh ts).length:Int)=(ts.length:Int):=by simp
   refine⟨_,(c_ (gw (i:=2) j5.nd rfl (Or.inl rfl) (gp iS (gp j1 (pv 1) f_) (gp iJ (gD gr (by rfl) T.jV aas (a_ (pv 0) d_)) f_)))
     (c_ (gw (i:=3) j5.nd rfl (Or.inl rfl) (pc0 O.wy xV hr (a_ (gp j1 (pv 1) f_) d_)))
     (c_ (gw (i:=4) j5.nd rfl (Or.inl rfl) (gp kZ (gp kZ (mq n4 (pv 0) nZ (n1 (pv 2))) (iC (a_ (pv 3) d_))) (mq n4 (pv 0) (n1 (pv 2)) nZ)))
     (c_ (gw (i:=5) j5.nd rfl (Or.inl rfl) (gp iS (pv 1) f_))
     (c_ (qZ (iw ((pw_and (ib jO (pv 5) f_ (ij _)) (pw_and1 (ib Dm (gD gr (by rfl) T.jV aas (a_ (pv 0) d_)) f_ (ij _)))).pt) (c_ (gw (i:=6) j5.nd rfl (Or.inl rfl) (gp iS (pv 2) (gD gr (by rfl) T.jV aas (a_ (pv 0) d_))))
     (e_ (gG (gp kZ (mq n4 (pv 0) nZ (n1 (pv 6))) (mq n4 (pv 0) (n1 (gp iJ (pv 6) f_)) nZ))))) hG))
     (c_ (qZ (iw ((pw_and (ib jO (pv 5) f_ (ij _)) (pw_and (ib Gf (pv 2) (gD gr (by rfl) T.jV aas (a_ (pv 0) d_)) (ij _)) (pw_and1 (ib Mm (iA h_ (pv 0) (pv 2) (fun _ _=>rfl)) (pv 3) (ij _))))).pt) (e_ (gG (gp kZ (gp kZ (mq n4 (pv 0) nZ (n1 (pv 2))) (iC (a_ (pv 3) d_))) (mq n4 (pv 0) (n1 (gp iJ (pv 2) f_)) nZ)))) hG))
     (c_ (qZ (iw (ib jO (pv 5) f_ (ij _)) (e_ (gG (gp kZ (gp kZ (iC (a_ (pv 3) d_)) (pv 4)) (iC (a_ (pc0 O.wy xV hr (a_ (gp j1 (pv 1) f_) d_)) d_))))) hG))
     (c_ (qZ (iw ((pw_and (ib jO (pv 5) f_ (ij _)) (pw_and1 (ib Gf (gp iJ (pv 2) f_) (gD gr (by rfl) T.jV aas (a_ (pv 0) d_)) (ij _)))).pt) (c_ (gw (i:=7) j5.nd rfl (Or.inl rfl) (iC (a_ (iA h_ (pv 0) (gp iJ (pv 2) f_) (fun _ _=>rfl)) (a_ (pv 3) (a_ (iA h_ (pv 0) (pv 2) (fun _ _=>rfl)) d_)))))
     (e_ (gG (gp kZ (gp kZ (mq n4 (pv 0) nZ (n1 (pv 2))) (pv 7)) (mq n4 (pv 0) (n1 (gp iJ (pv 2) f_)) nZ))))) hG))
     (e_ (gG (pv 4))))))))))),?_⟩
   refine⟨_,rfl,_,_,rfl,rfl,⟨by decide,by decide⟩,_,rfl,t,_,rfl,.inl (hV.of ht),_,_,rfl,rfl,_,_,rfl,rfl,(by rw[et];omega),?_⟩
   rw[et]
   have b:=mod_lt (c/5) ((ts.length:Int)+1) (by omega)
   obtain⟨k,hk⟩:∃k:Nat,c/5%((ts.length:Int)+1)=(k:Int):=⟨_,(Int.toNat_of_nonneg b.1).symm⟩
   dsimp only
   rw[hk]
   have KH:k≤ts.length:=by omega
   refine⟨_,rfl,_,_,rfl,rfl,⟨by decide,by decide⟩,c/30,rfl,fun x H1 s1=>?_⟩
   have Yz:=s1 _ _ ht
   refine⟨_,rfl,_,rfl,_,rfl,t,_,rfl,hV.of Yz,fun a ha=>?_⟩
   rw[vF]
   have s2:=s1.new (o:=.lst (gh (ts.take k))) ha
   have Ze:(upd H1 a (.lst (gh (ts.take k)))) a=some (.lst (gh (ts.take k))):=b_
   generalize upd H1 a (.lst (gh (ts.take k)))=H2 at s2 Ze
   refine⟨_,rfl,L2.jK,fun b0 MP=>?_⟩
   have s3:=s2.new (o:=.lst [V.str x]) MP
   refine⟨a,b0,_,_,rfl,rfl,ig MP Ze,b_,by simp;omega,fun d hd=>?_⟩
   have s4:=s3.new (o:=.lst (gh (ts.take k)++[V.str x])) hd
   have Zf:(upd (upd H2 b0 (.lst [V.str x])) d (.lst (gh (ts.take k)++[V.str x]))) d=some (.lst (gh (ts.take k++[x]))):=by rw[b_,jo]
   generalize upd (upd H2 b0 (.lst [V.str x])) d (.lst (gh (ts.take k)++[V.str x]))=H4 at s4 Zf
   refine⟨_,rfl,_,rfl,_,rfl,t,_,rfl,hV.of (s4 _ _ ht),fun e he=>?_⟩
   rw[EA]
   have s5:=s4.new (o:=.lst (gh (ts.drop k))) he
   refine⟨d,e,_,_,rfl,rfl,ig he Zf,b_,by simp;omega,fun m hm=>?_⟩
   have s6:=s5.new (o:=.lst (gh (ts.take k++[x])++gh (ts.drop k))) hm
   have WK:(upd (upd H4 e (.lst (gh (ts.drop k)))) m (.lst (gh (ts.take k++[x])++gh (ts.drop k)))) m=some (.lst (gh (ts.take k++[x]++ts.drop k))):=by rw[b_,mw]
   generalize upd (upd H4 e (.lst (gh (ts.drop k)))) m (.lst (gh (ts.take k++[x])++gh (ts.drop k)))=H6 at s6 WK
   have Kt:=s6 _ _ ht
   refine⟨_,rfl,_,_,rfl,rfl,(by show(0:Int)<5;decide),?_⟩
   refine⟨fun σ H7=>σ=[some (.ref t),some (.int c),some (.int k),some (.str x),some (.ref m),some (.int (c%5)),none,none]∧H7=H6,?_,?_⟩
   · refine⟨_,rfl,rfl,_,rfl,?_⟩
     refine jT (fun _=>?_) (fun _=>k7 ⟨rfl,rfl⟩)
     refine⟨_,rfl,t,_,rfl,.inl (hV.of Kt),_,_,rfl,rfl,_,rfl,?_⟩
     refine jT (fun h1=>?_) (fun _=>⟨rfl,rfl⟩)
     have h1:0<ts.length:=by have:=aar h1;rw[et] at this;omega
     refine⟨_,rfl,_,rfl,t,_,rfl,.inl (hV.of Kt),_,_,rfl,rfl,(by rw[et];omega),?_⟩
     have b2:=mod_lt (k:Int) (ts.length:Int) (by omega)
     obtain⟨o,ho⟩:∃o:Nat,(k:Int)%(ts.length:Int)=(o:Int):=⟨_,(Int.toNat_of_nonneg b2.1).symm⟩
     rw[et]
     dsimp only
     rw[ho]
     refine⟨_,rfl,_,rfl,_,rfl,t,_,rfl,hV.of Kt,fun a ha=>?_⟩
     have s7:=s6.new (o:=.lst (uG (gh ts) none (some (o:Int)))) ha
     refine⟨_,rfl,_,rfl,_,_,rfl,rfl,_,rfl,t,_,rfl,hV.of (s7 _ _ ht),fun e he=>?_⟩
     have s8:=s7.new (o:=.lst (uG (gh ts) (some ((o:Int)+1)) none)) he
     refine⟨a,e,gh (ts.take o),gh (ts.drop (o+1)),rfl,rfl,ig he (by rw[b_,vF]),by rw[b_,wI ts (k:=o+1) (by omega)],by simp;omega,fun p hp=>?_⟩
     refine q p _ _ (s8.new hp) ?_ (J9 ts o (by omega))
     rw[b_,mw]
   rintro σ H7 ⟨rfl,rfl⟩
   refine⟨fun σ H8=>σ=[some (.ref t),some (.int c),some (.int k),some (.str x),some (.ref m),some (.int (c%5)),none,none]∧H8=H7,?_,?_⟩
   · refine⟨_,rfl,rfl,_,rfl,?_⟩
     refine jT (fun _=>?_) (fun _=>k7 ⟨rfl,rfl⟩)
     refine⟨_,rfl,_,rfl,t,_,rfl,.inl (hV.of Kt),_,_,rfl,rfl,_,rfl,?_⟩
     refine jT (fun h1=>?_) (fun _=>k7 ⟨rfl,rfl⟩)
     have h1:k<ts.length:=by have:=aar h1;rw[et] at this;omega
     have hx:ts[k]?=some ts[k]:=UR h1
     refine⟨_,rfl,_,rfl,t,_,_,_,rfl,rfl,hV.of Kt,iB rfl (n9 hx),_,rfl,rfl,_,rfl,?_⟩
     refine jT (fun h2=>?_) (fun _=>⟨rfl,rfl⟩)
     have h2:ts[k]≠x:=fun z=>by rw[z] at h2;simp at h2
     refine⟨_,rfl,_,rfl,_,rfl,t,_,rfl,hV.of Kt,fun a ha=>?_⟩
     have s7:=s6.new (o:=.lst (uG (gh ts) none (some (k:Int)))) ha
     rw[vF] at s7 ⊢
     refine⟨_,rfl,L2.jK,fun b0 MP=>?_⟩
     have s8:=s7.new (o:=.lst [V.str x]) MP
     refine⟨a,b0,_,_,rfl,rfl,ig MP b_,b_,by simp;omega,fun d hd=>?_⟩
     have s9:=s8.new (o:=.lst (gh (ts.take k)++[V.str x])) hd
     refine⟨_,rfl,_,rfl,_,_,rfl,rfl,_,rfl,t,_,rfl,hV.of (s9 _ _ ht),fun e he=>?_⟩
     have Mb:=s9.new (o:=.lst (uG (gh ts) (some ((k:Int)+1)) none)) he
     refine⟨d,e,_,gh (ts.drop (k+1)),rfl,rfl,ig he b_,by rw[b_,wI ts (k:=k+1) (by omega)],by simp;omega,fun p hp=>?_⟩
     refine q p _ _ (Mb.new hp) ?_ (FL ts k x h1 h2)
     rw[b_,jo,mw]
   rintro σ H8 ⟨rfl,rfl⟩
   refine⟨fun σ H9=>σ=[some (.ref t),some (.int c),some (.int k),some (.str x),some (.ref m),some (.int (c%5)),none,none]∧H9=H8,?_,?_⟩
   · refine⟨_,rfl,rfl,_,rfl,?_⟩
     refine jT (fun _=>?_) (fun _=>⟨rfl,rfl⟩)
     refine⟨_,rfl,L2.jK,fun a ha=>?_⟩
     have s7:=s6.new (o:=.lst [V.str x]) ha
     refine⟨_,rfl,a,m,_,_,rfl,rfl,b_,ig ha WK,by simp;omega,fun b0 MP=>?_⟩
     have s8:=s7.new (o:=.lst ([V.str x]++gh (ts.take k++[x]++ts.drop k))) MP
     refine⟨_,rfl,_,_,rfl,rfl,⟨by decide,by decide⟩,c/60,rfl,fun y H9 s9=>⟨L2.jK,fun d hd=>?_⟩⟩
     have Mb:=(s8.trans s9).new (o:=.lst [V.str y]) hd
     refine⟨b0,d,_,_,rfl,rfl,ig hd (s9 _ _ b_),b_,by simp;omega,fun p hp=>?_⟩
     refine q p _ _ (Mb.new hp) ?_ (FN ts k x x y)
     rw[b_]
     simp[gh]
   rintro σ H9 ⟨rfl,rfl⟩
   refine⟨fun σ Sr=>σ=[some (.ref t),some (.int c),some (.int k),some (.str x),some (.ref m),some (.int (c%5)),none,none]∧Sr=H9,?_,?_⟩
   · refine⟨_,rfl,rfl,_,rfl,?_⟩
     refine jT (fun _=>?_) (fun _=>k7 ⟨rfl,rfl⟩)
     refine⟨_,rfl,_,_,rfl,rfl,_,rfl,t,_,rfl,.inl (hV.of Kt),_,_,rfl,rfl,_,rfl,?_⟩
     refine jT (fun h1=>?_) (fun _=>⟨rfl,rfl⟩)
     have h1:k+1<ts.length:=by have:=aar h1;rw[et] at this;omega
     have hx:ts[k]?=some ts[k]:=UR (by omega)
     have hy:ts[k+1]?=some ts[k+1]:=UR h1
     refine⟨_,rfl,_,rfl,_,_,rfl,rfl,t,_,_,_,rfl,rfl,hV.of Kt,iB (j:=k+1) (by omega) (n9 hy),_,rfl,_,rfl,_,rfl,t,_,_,_,rfl,rfl,hV.of Kt,iB rfl (n9 hx),L2.jK,fun u hu=>?_⟩
     have s7:=s6.new (o:=.lst [V.str ts[k+1],V.str x,V.str ts[k]]) hu
     have Zg:(upd H9 u (.lst [V.str ts[k+1],V.str x,V.str ts[k]])) u=some (.lst (gh [ts[k+1],x,ts[k]])):=b_
     generalize upd H9 u (.lst [V.str ts[k+1],V.str x,V.str ts[k]])=H11 at s7 Zg
     refine⟨_,rfl,_,rfl,_,rfl,t,_,rfl,hV.of (s7 _ _ ht),fun a ha=>?_⟩
     rw[vF]
     have s8:=s7.new (o:=.lst (gh (ts.take k))) ha
     refine⟨_,rfl,a,u,_,_,rfl,rfl,b_,ig ha Zg,by simp;omega,fun d hd=>?_⟩
     have s9:=s8.new (o:=.lst (gh (ts.take k)++gh [ts[k+1],x,ts[k]])) hd
     refine⟨_,rfl,_,rfl,_,_,rfl,rfl,_,rfl,t,_,rfl,hV.of (s9 _ _ ht),fun e he=>?_⟩
     have Mb:=s9.new (o:=.lst (uG (gh ts) (some ((k:Int)+2)) none)) he
     refine⟨d,e,_,gh (ts.drop (k+2)),rfl,rfl,ig he b_,by rw[b_,wI ts (k:=k+2) (by omega)],by simp;omega,fun p hp=>?_⟩
     refine q p _ _ (Mb.new hp) ?_ (HS ts k ts[k+1] x ts[k] h1)
     rw[b_,mw,mw]
   rintro σ Sr ⟨rfl,rfl⟩
   exact⟨_,rfl,q m _ _ s6 WK (HR ts k x)⟩
end
structure Sz(k:Nat)(D:Dk):Prop where
 many:D.made.length≤k
 iD:(D.made.flatMap (·.iD)).length≤3*k
 j4:(D.made.flatMap (·.j4)).length≤3*(k*k)
theorem GN(k:Nat):(k+1)*(k+1)=k*k+2*k+1:=by simp only [Nat.mul_add,Nat.add_mul];omega
theorem Sz.up{k:Nat}{D:Dk}(z:Sz k D):Sz (k+1) D:=⟨Nat.le_succ_of_le z.many,by have:=z.iD;omega,by have:=z.j4;have:=GN k;omega⟩
theorem Sz.keep{k:Nat}{D:Dk}(z:Sz k D)(s:Str){p:Pt}(hp:p.iD.length≤3)(hc:p.j4.length≤3*k+3):Sz (k+1) (D.keep s p):=by
 refine⟨?_,?_,?_⟩
 · show(D.made++[p]).length≤_
   rw[VO];have:=z.many;show _+1≤_;omega
 · show((D.made++[p]).flatMap (·.iD)).length≤_
   rw[abk,VO,aay,abh,aaB];have:=z.iD;omega
 · show((D.made++[p]).flatMap (·.j4)).length≤_
   rw[abk,VO,aay,abh,aaB];have:=z.j4;have:=GN k;omega
theorem Sz.small{k:Nat}{D:Dk}(z:Sz k D)(h:k≤36):Small D.made:=by
 have h2:k*k≤36*36:=Nat.mul_le_mul h h
 exact⟨aac z.many (by omega),aac z.iD (by omega),aac z.j4 (by omega)⟩
theorem Sz.row{k:Nat}{D:Dk}(z:Sz k D)(I:Inv D)(s f:Str):(D.row s f).length≤3*k:=aac (I.uM s f) z.iD
theorem ub(D:Dk)(s:Str)(p:Pt):(D.keep s p).names=D.names++[p.nm]:=by
 show(D.made++[p]).map (·.nm)=_
 rw[aam];rfl
theorem HU{x f:Str}{row:List Ln}{texts:List Str}(e:FK (row.map (·.tx)) texts):(mx x f row texts).iD.length≤3:=by
 have rise:=sI (row.map (·.tx)) texts
 rw[RF] at rise
 have h:=Gv rise x
 rw[K01.w9] at h
 have:=e.near
 show(kA x texts _).length≤3
 omega
theorem pick{xs:List Str}{i:Int}(h0:0≤i)(h:i<(xs.length:Int)):∃x,E6 (gh xs) i=some (V.str x)∧x∈xs:=by
 obtain⟨v,e,ev⟩:=q0 (xs:=gh xs) h0 (by simpa using h)
 obtain⟨x,hx,rfl⟩:=kT ev
 exact⟨x,e,VI hx⟩
section
variable{P:Program}{w:World}{K:PySem.W.Frag}{mg:Str→Option Value}{base:Heap}{A:Ad}
def Oj(A:Ad):Sp:=fun vs H Q _=>∃(d ss fs:Addr)(D:Dk)(W:Addr→Prop)(k:Nat)(stores files:List Str)(c:Int)(x:Str)(b:Bool),vs=[.ref d,.ref ss,.ref fs,.int c,.str x,.bl b]∧ik A H d D W∧Inv D∧Sz k D∧k<36∧
 H ss=some (.lst (gh stores))∧stores≠[]∧stores.length≤1000∧(∀s∈stores,s∈D.stores∧jw s)∧H fs=some (.lst (gh files))∧files≠[]∧files.length≤1000∧(∀f∈files,Good f)∧Good x∧x∉D.names∧(∀z∈D.names,jw z)∧
 ∀H' D',ik A H' d D' W→qL W H H'→Inv D'→Sz (k+1) D'→D'.stores=D.stores→(D'.names=D.names∨D'.names=D.names++[x])→Q .jv H'
theorem LR(T:Txt mg)(O:Ok K mg A):ie P w K mg base lZ 7 A.xM A.xN ["desk","stores","files","cell","name","backs"] (Oj A):=by
 have nO:=(FF (P:=P) (w:=w) (base:=base) T O).IW
 have jN:=(FE (P:=P) (w:=w) (base:=base) T O).IW
 have sy:=(GH (P:=P) (w:=w) (base:=base) T O).IW
 have sA:=(GG (P:=P) (w:=w) (base:=base) T O).IW
 have oG:=(GF (P:=P) (w:=w) (base:=base) T O).IW
 have kc:=(sj (P:=P) (w:=w) (base:=base) T O).IW
 have oX:=(BC (P:=P) (w:=w) (base:=base) T O).IW
 have ud:=(J4 (P:=P) (w:=w) (base:=base) T O).IW
 have EI:=LQ (P:=P) (w:=w) (base:=base) T O
 refine O.Bt.f.ok ji (fun vs H Q E h=>?_) (fun jd A0 outer s H vs Q E hr h=>?_)
 · obtain⟨d,ss,fs,D,W,k,stores,files,c,x,b,rfl,_⟩:=h
   rfl
 · obtain⟨d,ss,fs,D,W,k,stores,files,c,x,bk,rfl,X,I,z,hk,O7,hs0,Te,zZ,qM,Zh,Y3,hfg,gx,hx,KC,q⟩:=h
   obtain⟨π,y⟩:=id X
   have sz:sizeLine=16777216:=aav
   have sm:=z.small (by omega)
   have jK:wC D.made.length:=sm.many
   have yl:D.made.length≤4000:=jK
   have es:((gh stores).length:Int)=(stores.length:Int):=by simp
   have ef:((gh files).length:Int)=(files.length:Int):=by simp
   have VD:0<stores.length:=List.length_pos_iff.mpr hs0
   have hf1:0<files.length:=List.length_pos_iff.mpr Zh
   refine⟨_,(c_ (gw (i:=6) ji.nd rfl (Or.inl rfl) (iA h_ (pv 1) (gp iS (pv 3) (gD gr (by rfl) T.jV aas (a_ (pv 1) d_))) (fun _ _=>rfl)))
     (c_ (gw (i:=7) ji.nd rfl (Or.inl rfl) (iA h_ (pv 2) (gp iS (gp j1 (pv 3) f_) (gD gr (by rfl) T.jV aas (a_ (pv 2) d_))) (fun _ _=>rfl)))
     (c_ (gw (i:=8) ji.nd rfl (Or.inl rfl) (gp iS (gp j1 (pv 3) f_) f_))
     (c_ (gw (i:=9) ji.nd rfl (Or.inl rfl) (gp j1 (pv 3) f_))
     (c_ (DG (j:=10) xh (fU om).names [13] ji.nd rfl rfl rfl (iz (pm0 (pv 0) O.gn O.vk nO hr (a_ (pv 6) (a_ (pv 7) d_)))) rfl (by decide+kernel) (fun _ _ _ _=>(gA (i:=13) ji.nd rfl (Or.inl rfl))) (fun _ _ _ _=>lC) (fun _ _ _ _=>⟨_,iA yO (pv 13) f_ (fun _ _=>rfl),by(try simp only [ir]);rfl⟩))
     (e_ (iw (Jv ((pw_and (ib jO (pv 8) f_ (ij _)) (pw_and (ET (pv 5)) (pw_and1 (ib Dm (gD gr (by rfl) T.jV aas (a_ (pm0 (pv 0) O.gn O.lP jN hr (a_ (pv 6) d_)) d_)) f_ (ij _))))).pt)) (e_ (hZ (pm0 (pv 0) O.gn O.wu sy hr (a_ (pv 6) (a_ (pv 4) (a_ (iA h_ (pm0 (pv 0) O.gn O.lP jN hr (a_ (pv 6) d_)) (gp iS (pv 9) (gD gr (by rfl) T.jV aas (a_ (pm0 (pv 0) O.gn O.lP jN hr (a_ (pv 6) d_)) d_))) (fun _ _=>rfl)) d_)))))) (e_ (iw (Jv ((pw_and (ib jO (pv 8) f_ (ij _)) (pw_and (ib jO (gp iS (pv 9) f_) f_ (ij _)) (pw_and1 (ib Dm (gD gr (by rfl) T.jV aas (a_ (pm0 (pv 0) O.gn O.lP jN hr (a_ (pv 6) d_)) d_)) f_ (ij _))))).pt)) (e_ (hZ (pm0 (pv 0) O.gn O.wx sA hr (a_ (pv 6) (a_ (iA h_ (pm0 (pv 0) O.gn O.lP jN hr (a_ (pv 6) d_)) (wU qU f_) (fun _ _=>rfl)) d_))))) (e_ (iw (ib Dm (pv 8) f_ (ij _)) (c_ (gw (i:=11) ji.nd rfl (Or.inl rfl) (iA h_ (pv 1) (gp iS (pv 9) (gD gr (by rfl) T.jV aas (a_ (pv 1) d_))) (fun _ _=>rfl)))
     (c_ (gw (i:=12) ji.nd rfl (Or.inl rfl) (pm0 (pv 0) O.gn O.lP jN hr (a_ (pv 11) d_)))
     (e_ (iw (ib Dm (gD gr (by rfl) T.jV aas (a_ (pv 12) d_)) f_ (ij _)) (e_ (hZ (pm0 (pv 0) O.gn O.sL oG hr (a_ (pv 6) (a_ (pv 11) (a_ (iA h_ (pv 12) (gp iS (gp j1 (pv 9) f_) (gD gr (by rfl) T.jV aas (a_ (pv 12) d_))) (fun _ _=>rfl)) d_)))))) hG)))) (e_ (iw (ib jO (gD gr (by rfl) T.jV aas (a_ (pm0 (pv 0) O.gn O.ml kc hr (a_ (pv 6) (a_ (pv 7) d_))) d_)) f_ (ij _)) (e_ (hZ (pm0 (pv 0) O.gn O.rV oX hr (a_ (pv 6) (a_ (pv 4) (a_ (pv 7) (a_ (pc0 O.Bs EI hr (a_ (pv 10) (a_ (pv 9) d_))) d_))))))) (e_ (hZ (pm0 (pv 0) O.gn O.zI ud hr (a_ (pv 6) (a_ (pv 4) (a_ (pv 7) (a_ (iC (a_ (gp iS (pv 9) (gD gr (by rfl) T.jV aas (a_ (pv 10) d_))) d_)) d_)))))))))))))))))))),?_⟩
   have b1:=mod_lt c (stores.length:Int) (by omega)
   obtain⟨st,WL,L9⟩:=pick (xs:=stores) b1.1 b1.2
   have b2:=mod_lt (c/7) (files.length:Int) (by omega)
   obtain⟨f,WM,hf2⟩:=pick (xs:=files) b2.1 b2.2
   obtain⟨CP,FW⟩:=zZ st L9
   have gf:=hfg f hf2
   refine⟨_,rfl,_,rfl,_,rfl,ss,_,rfl,.inl (hV.of O7),_,_,rfl,rfl,(by rw[es];omega),ss,_,_,_,rfl,rfl,hV.of O7,(by rw[es];exact WL),?_⟩
   refine⟨_,rfl,_,rfl,_,_,rfl,rfl,⟨by decide,by decide⟩,_,rfl,fs,_,rfl,.inl (hV.of qM),_,_,rfl,rfl,(by rw[ef];omega),fs,_,_,_,rfl,rfl,hV.of qM,(by rw[ef];exact WM),?_⟩
   refine⟨_,rfl,_,_,rfl,rfl,⟨by decide,by decide⟩,_,_,rfl,rfl,(by show(0:Int)<6;decide),?_⟩
   refine⟨_,rfl,_,_,rfl,rfl,⟨by decide,by decide⟩,?_⟩
   refine⟨_,rfl,d,π.dx,_,rfl,y.hd,(ux _ _ _).2.2.2.1,_,rfl,_,rfl,d,D,W,st,f,rfl,X,FW,sm,I,fun h=>absurd CP h,fun _ r H1 s1 sx ⟨vs,CN,EO⟩=>?_⟩
   have AZ:=z.row I st f
   have hvl:=Paired.length EO
   refine⟨r,rfl,⟨_,hV.of CN⟩,j2 (K:=K) (a:=r) (xs:=vs) (by omega) (fun i ys σ H4=>∃(WN:Option V),σ=[some (.ref d),some (.ref ss),some (.ref fs),some (.int c),some (.str x),some (.bl bk),some (.str st),some (.str f),some (.int (c/11%6)),some (.int (c/66)),none,none,none,WN]∧H4=H1∧ys=gh (((D.row st f).take i).map (·.tx)))
     ⟨none,rfl,rfl,rfl⟩ (fun i ys σ H4 _ ⟨_,_,e,e2⟩=>by rw[e,e2];exact⟨hV.of CN,by rw[RF,RF,aau];omega⟩) ?_ ?_⟩
   · rintro i v ys σ H4 hx ⟨WN,rfl,rfl,rfl⟩
     obtain⟨ln,yk,t,rfl,ht⟩:=iy EO hx
     refine⟨_,rfl,t,_,_,_,rfl,rfl,vK.of ht,iB (j:=2) rfl rfl,_,rfl,rfl,?_⟩
     rw[take_snoc yk,aam,jo]
     rfl
   rintro ys σ H4 ⟨WN,rfl,rfl,rfl⟩ SA R4
   rw[hvl,aaj]
   have s2:=s1.new (o:=.lst (gh ((D.row st f).map (·.tx)))) R4
   have SD:(upd H4 SA (.lst (gh ((D.row st f).map (·.tx))))) SA=some (.lst (gh ((D.row st f).map (·.tx)))):=b_
   generalize upd H4 SA (.lst (gh ((D.row st f).map (·.tx))))=H2 at s2 SD
   have X2:=X.same s2
   have Ku:(((D.row st f).map (·.tx)).length:Int)=((D.row st f).length:Int):=by rw[RF]
   have el:∀l:List Str,((gh l).length:Int)=(l.length:Int):=fun l=>by simp
   have hasB:∀u,(D.has u).length≤D.made.length:=fun u=>by
     rw[Dk.Gw,RF];exact aaH _ _
   have O8:∀u,∀v∈D.has u,v∈D.held u∧v∈D.names:=fun u v hv=>by
     obtain⟨h1,h2⟩:=aaq.mp hv
     exact⟨aar h2,h1⟩
   refine⟨fun b H3=>gb H2 H3∧(b=true→D.has st≠[]),?_,?_⟩
   · refine⟨_,rfl,rfl,_,rfl,?_⟩
     refine jT (fun _=>?_) (fun _=>⟨gb.refl _,fun z=>by cases z⟩)
     refine⟨_,rfl,_,rfl,?_⟩
     refine jT (fun _=>?_) (fun _=>⟨gb.refl _,fun z=>by cases z⟩)
     refine⟨_,rfl,d,π.dx,_,rfl,s2 _ _ y.hd,(ux _ _ _).1,_,rfl,d,D,W,st,rfl,X2,FW,jK,fun h=>absurd CP h,fun _ p qN=>?_⟩
     refine⟨p,_,rfl,.inl (hV.of b_),_,_,rfl,rfl,_,rfl,(gb.refl H2).new qN,fun h e=>?_⟩
     rw[e] at h
     exact absurd (aar h) (by decide)
   rintro b H3 ⟨Zi,hb⟩
   have s3:=s2.trans Zi
   have X3:=X.same s3
   cases b with
   | true=>
     have tO:=hb rfl
     have L4:0<(D.has st).length:=List.length_pos_iff.mpr tO
     refine mD ?_
     refine⟨_,rfl,d,π.dx,_,rfl,s3 _ _ y.hd,(Il _ _ _).2.2.2.1,_,rfl,_,rfl,_,rfl,d,π.dx,_,rfl,s3 _ _ y.hd,(ux _ _ _).1,_,rfl,d,D,W,st,rfl,X3,FW,jK,fun h=>absurd CP h,fun _ p qN=>?_⟩
     have s4:=s3.new (o:=.lst (gh (D.has st))) qN
     refine⟨_,rfl,_,rfl,d,π.dx,_,rfl,s4 _ _ y.hd,(ux _ _ _).1,_,rfl,d,D,W,st,rfl,X.same s4,FW,jK,fun h=>absurd CP h,fun _ p2 yi=>?_⟩
     have s5:=s4.new (o:=.lst (gh (D.has st))) yi
     have b3:=mod_lt (c/66) ((D.has st).length:Int) (by omega)
     obtain⟨o,eo,ho⟩:=pick (xs:=D.has st) b3.1 b3.2
     obtain⟨T4,T5⟩:=O8 st o ho
     refine⟨p2,_,rfl,.inl (hV.of b_),_,_,rfl,rfl,(by rw[el];omega),p,_,_,_,rfl,rfl,hV.of (ig yi b_),(by rw[el];exact eo),?_⟩
     refine⟨d,D,W,st,x,o,rfl,X.same s5,I,jK,FW,gx.ua,KC o T5,fun h=>absurd CP h,fun _ h=>absurd gx h,fun _ _ h=>absurd h hx,fun _ _ _ h=>absurd T4 h,fun _ _ _ _ H' X' s'=>?_⟩
     exact q H' _ X' (fun b o e n=>s' b o (s5 _ _ e) n) (I.back CP hx T4) (z.keep st (aaD _) (aaD _)) rfl (.inr (ub D st _))
   | false=>
   refine k7 ?_
   refine⟨fun b H4=>gb H3 H4∧(b=true→D.has st≠[]),?_,?_⟩
   · refine⟨_,rfl,rfl,_,rfl,?_⟩
     refine jT (fun _=>?_) (fun _=>⟨gb.refl _,fun z=>by cases z⟩)
     refine⟨_,rfl,_,_,rfl,rfl,(by show(0:Int)<4;decide),rfl,_,rfl,?_⟩
     refine jT (fun _=>?_) (fun _=>⟨gb.refl _,fun z=>by cases z⟩)
     refine⟨_,rfl,d,π.dx,_,rfl,s3 _ _ y.hd,(ux _ _ _).1,_,rfl,d,D,W,st,rfl,X3,FW,jK,fun h=>absurd CP h,fun _ p qN=>?_⟩
     refine⟨p,_,rfl,.inl (hV.of b_),_,_,rfl,rfl,_,rfl,(gb.refl H3).new qN,fun h e=>?_⟩
     rw[e] at h
     exact absurd (aar h) (by decide)
   rintro b H4 ⟨O6,hb⟩
   have s4:=s3.trans O6
   have X4:=X.same s4
   cases b with
   | true=>
     have tO:=hb rfl
     obtain⟨zs,la,T6⟩:∃zs la,D.has st=zs++[la]:=⟨_,_,(List.dropLast_concat_getLast tO).symm⟩
     have TB:=O8 st la (by rw[T6];simp)
     refine mD ?_
     refine⟨_,rfl,d,π.dx,_,rfl,s4 _ _ y.hd,(Il _ _ _).2.2.2.2.2,_,rfl,_,rfl,d,π.dx,_,rfl,s4 _ _ y.hd,(ux _ _ _).1,_,rfl,d,D,W,st,rfl,X4,FW,jK,fun h=>absurd CP h,fun _ p qN=>?_⟩
     have s5:=s4.new (o:=.lst (gh (D.has st))) qN
     have Pq:E6 (gh (D.has st)) (-1)=some (V.str la):=by rw[T6,←jo];exact Dy _ _
     refine⟨_,rfl,p,_,_,_,rfl,rfl,hV.of b_,Pq,?_⟩
     refine⟨d,D,W,st,la,rfl,X.same s5,I,jK,FW,KC la TB.2,KC,fun h=>absurd CP h,fun _ h=>absurd TB.1 h,fun _ _=>⟨I.Bn CP T6,fun H' X' s'=>?_⟩⟩
     exact q H' _ X' (fun b o e n=>s' b o (s5 _ _ e) n) (I.drop CP (I.Bn CP T6)) ⟨z.up.many,z.up.iD,z.up.j4⟩ rfl (.inl rfl)
   | false=>
   refine k7 ?_
   refine⟨_,rfl,_,_,rfl,rfl,_,rfl,?_⟩
   refine jT (fun _=>?_) (fun _=>?_)
   · have b3:=mod_lt (c/66) (stores.length:Int) (by omega)
     obtain⟨so,Ib,O9⟩:=pick (xs:=stores) b3.1 b3.2
     obtain⟨SE,SF⟩:=zZ so O9
     refine⟨_,rfl,_,rfl,_,rfl,ss,_,rfl,.inl (hV.of (s4 _ _ O7)),_,_,rfl,rfl,(by rw[es];omega),ss,_,_,_,rfl,rfl,hV.of (s4 _ _ O7),(by rw[es];exact Ib),?_⟩
     refine⟨_,rfl,d,π.dx,_,rfl,s4 _ _ y.hd,(ux _ _ _).1,_,rfl,d,D,W,so,rfl,X4,SF,jK,fun h=>absurd SE h,fun _ p qN=>?_⟩
     have s5:=s4.new (o:=.lst (gh (D.has so))) qN
     refine⟨_,rfl,p,_,rfl,.inl (hV.of b_),_,_,rfl,rfl,_,rfl,?_⟩
     refine jT (fun h=>?_) (fun _=>?_)
     · have h:0<(D.has so).length:=by have:=aar h;rw[el] at this;omega
       have b4:=mod_lt (c/66/5) ((D.has so).length:Int) (by omega)
       obtain⟨o,eo,ho⟩:=pick (xs:=D.has so) b4.1 b4.2
       obtain⟨T4,T5⟩:=O8 so o ho
       refine⟨_,rfl,d,π.dx,_,rfl,s5 _ _ y.hd,(Il _ _ _).2.2.2.2.1,_,rfl,_,rfl,_,rfl,_,rfl,_,_,rfl,rfl,⟨by decide,by decide⟩,_,rfl,p,_,rfl,.inl (hV.of b_),_,_,rfl,rfl,(by rw[el];omega),p,_,_,_,rfl,rfl,hV.of b_,(by rw[el];exact eo),?_⟩
       refine⟨d,D,W,st,so,o,rfl,X.same s5,I,jK,FW,SF,KC o T5,fun h=>absurd CP h,fun _ h=>absurd SE h,fun _ _ h=>absurd T4 h,fun _ _ _ cm H6 H' s6 Px _ X' s'=>?_⟩
       exact q H' _ X' (fun b o e n=>s' b o (by rw[de (gg (s6 _ _ (s5 _ _ e)) Px)];exact s6 _ _ (s5 _ _ e)) n) (I.take CP T5) ⟨z.up.many,z.up.iD,z.up.j4⟩ rfl (.inl rfl)
     · exact q _ D (X.same s5) (qL.of s5) I z.up rfl (.inl rfl)
   refine⟨_,rfl,d,π.dx,_,rfl,s4 _ _ y.hd,(ux _ _ _).2.2.2.2.1,_,rfl,_,rfl,d,D,W,st,f,rfl,X4,FW,sm,I,fun h=>absurd CP h,fun _ p H5 qs Me qN Ig yi=>?_⟩
   have s5:=s4.trans Me
   have MN:=Paired.length yi
   have SG:=Me _ _ (O6 _ _ (Zi _ _ SD))
   refine⟨p,_,rfl,.inl (hV.of Ig),rfl,_,rfl,?_⟩
   refine jT (fun h=>?_) (fun h=>?_)
   · have hq:D.AF st f=[]:=by
       have:=V.int.inj (aar h)
       rw[←MN] at this
       exact aaE.mp (by omega)
     refine⟨_,rfl,d,π.dx,_,rfl,s5 _ _ y.hd,(Il _ _ _).2.1,_,rfl,_,rfl,_,rfl,_,rfl,_,rfl,SA,(D.row st f).map (·.tx),c/66,rfl,SG,by rw[RF];omega,fun t H6 ts MR Kt ed=>?_⟩
     have s6:=s5.trans MR
     have RA:=ed.len
     rw[RF] at RA
     refine⟨d,t,D,W,st,x,f,ts,rfl,X.same s6,I,sm,aac z.iD (by omega),FW,gx.ua,gf.ua,Kt,by omega,fun h=>absurd CP h,fun _ h=>absurd ⟨gx,gf⟩ h,fun _ _ _ h=>absurd h hx,fun _ _ _ _ h=>absurd hq h,fun _ _ _ _ _ h=>absurd h ed.ne,fun _ _ _ _ _ _ H' X' s'=>?_⟩
     refine q H' _ X' (fun b o e n=>s' b o (s6 _ _ e) n) (I.record CP hx hq ts) (z.keep st (HU ed) (aac vD.2 (by omega))) rfl (.inr (ub D st _))
   · have hq:D.AF st f≠[]:=fun e=>h (by rw[←MN,e];rfl)
     have hrpos:0<(D.row st f).length:=by
       rcases Nat.eq_zero_or_pos (D.row st f).length with e|e
       · exfalso
         apply hq
         show kR _ (D.row st f)=[]
         rw[aaE.mp e]
         rfl
       · exact e
     have b3:=mod_lt (c/66) ((D.row st f).length:Int) (by omega)
     refine⟨_,rfl,d,π.dx,_,rfl,s5 _ _ y.hd,(Il _ _ _).2.2.1,_,rfl,_,rfl,_,rfl,_,rfl,_,rfl,SA,_,rfl,.inl (hV.of SG),_,_,rfl,rfl,(by rw[el,Ku];omega),L2.jK,fun t ht=>?_⟩
     have s6:=s5.new (o:=.lst [V.int (c/66%((gh ((D.row st f).map (·.tx))).length:Int))]) ht
     refine⟨d,t,D,W,st,x,f,[c/66%((gh ((D.row st f).map (·.tx))).length:Int)],rfl,X.same s6,I,sm,FW,gx.ua,gf.ua,b_,by show 1≤1000;decide,fun p hp=>?_,fun h=>absurd CP h,fun _ h=>absurd ⟨gx,gf⟩ h,fun _ _ _ h=>absurd h hx,fun _ _ _ _ h=>absurd ?_ h,(fun _ _ _ _ h=>by cases h),fun _ _ _ _ ok _ H' X' s'=>?_⟩
     · rw[UP.mp hp,el,Ku]
       refine aa9 (m:=108) ?_ (by decide)
       exact aac (Nat.log2_le_self _) (by omega)
     · rw[el,Ku]
       exact⟨⟨b3.1,b3.2⟩,trivial⟩
     · refine q H' _ X' (fun b o e n=>s' b o (s6 _ _ e) n) (I.cut CP hx fun m hm=>?_) (z.keep st (aaD _) (aac (List.length_filterMap_le _ _) (by show 1≤_;omega))) rfl (.inr (ub D st _))
       obtain⟨pl,_,oW⟩:=aby.mp hm
       obtain⟨l',Ie,rfl⟩:=aaA.mp oW
       exact aab (VI Ie)
end
theorem qm{K:PySem.W.Frag}{H H':Hp}{a:Addr}{xs:List V}(h:hV K H a xs)(s:gb H H'):hV K H' a xs:=by
 rcases h with(h|⟨u,h⟩)|h
 · exact .inl (.inl (s _ _ h))
 · exact .inl (.inr ⟨u,s _ _ h⟩)
 · exact .inr h
abbrev BE(ns:List Int)(i:Int):Int:=cellAt ns i%20736
def qx(ns:List Int):List Str:=[nameOf (BE ns 0) 0,nameOf (BE ns 0) 1,nameOf (BE ns 0) 2]
def nc(ns:List Int):List Str:=[nameOf (BE ns 1) 0,nameOf (BE ns 1) 1]
theorem HV(ns:List Int):(qx ns).Nodup:=by
 have h:∀i j:Int,0≤i→i<36→0≤j→j<36→i≠j→nameOf (BE ns 0) i≠nameOf (BE ns 0) j:=fun i j a b c d e z=>e (Ey a b c d z)
 unfold qx
 simp only [aaQ,XU,abl,or_false,not_or,aa6,and_true]
 exact⟨⟨h 0 1 (by decide) (by decide) (by decide) (by decide) (by decide),h 0 2 (by decide) (by decide) (by decide) (by decide) (by decide)⟩,h 1 2 (by decide) (by decide) (by decide) (by decide) (by decide),by simp⟩
theorem su{ns:List Int}:∀s∈qx ns,Good s:=by
 intro s hs
 unfold qx at hs
 simp only [XU,abl,or_false] at hs
 rcases hs with rfl|rfl|rfl<;>exact pM _ _
theorem zY{ns:List Int}:∀s∈nc ns,Good s:=by
 intro s hs
 unfold nc at hs
 simp only [XU,abl,or_false] at hs
 rcases hs with rfl|rfl<;>exact pM _ _
section
variable{P:Program}{w:World}{K:PySem.W.Frag}{mg:Str→Option Value}{base:Heap}{A:Ad}
structure Built(A:Ad)(ns:List Int)(n:Nat)(H H':Hp)(b d ss fs:Addr)(D:Dk)(W:Addr→Prop):Prop where
 same:gb H H'
 fresh:H b=none
 at_:H' b=some (.lst [.ref d,.ref ss,.ref fs])
 st:H' ss=some (.lst (gh (qx ns)))
 fl:H' fs=some (.lst (gh (nc ns)))
 U7:ik A H' d D W
 own:∀x,W x→H x=none
 inv:Inv D
 sz:Sz n D
 stores:D.stores=qx ns
 names:∀x∈D.names,∃j:Nat,j<n∧x=nameOf (BE ns 3) j
def Ol(K:PySem.W.Frag)(A:Ad):Sp:=fun vs H Q _=>∃(a:Addr)(ns:List Int)(first:Int)(n:Nat)(bk:Bool),vs=[.ref a,.int first,.int n,.bl bk]∧hV K H a (ns.map V.int)∧ns.length≤1000∧0≤first∧first≤1000∧n≤35∧∀b d ss fs D W H',Built A ns n H H' b d ss fs D W→Q (.ref b) H'
theorem LS(T:Txt mg)(O:Ok K mg A):ie P w K mg base lZ 8 A.xO A.xP ["script","first","most","backs"] (Ol K A):=by
 have yo:=CB (P:=P) (w:=w) (base:=base) T O
 have CQ:=(J0 (P:=P) (w:=w) (base:=base) T O).IW
 have sC:=LN (P:=P) (w:=w) (base:=base) T O
 have ja:=GL (P:=P) (w:=w) (base:=base) T O
 have EJ:=LO (P:=P) (w:=w) (base:=base) T O
 have EK:=LR (P:=P) (w:=w) (base:=base) T O
 refine O.Bu.f.ok i7 (fun vs H Q E h=>?_) (fun jd A0 outer s H vs Q E hr h=>?_)
 · obtain⟨a,ns,first,n,bk,rfl,_⟩:=h
   rfl
 · obtain⟨a,ns,first,n,bk,rfl,ha,MM,Zh,hf1,hn,q⟩:=h
   have sz:sizeLine=16777216:=aav
   refine⟨_,(c_ (gw (i:=4) i7.nd rfl (Or.inl rfl) (IA O.NT yo (hr.mono (by decide)) rfl O.NU O.tK.b .nil lg))
     (c_ (DG (j:=5) rA (fU my).names [8] i7.nd rfl rfl rfl (ke rfl T.lM (a_ f_ d_)) rfl (by decide+kernel) (fun _ _ _ _=>(gA (i:=8) i7.nd rfl (Or.inl rfl))) (fun _ _ _ _=>lC) (fun _ _ _ _=>⟨_,pc0 O.sN sC hr (a_ (gp iS (pc0 O.jD ja hr (a_ (pv 0) (a_ f_ d_))) f_) (a_ (pv 8) d_)),by(try simp only [ir]);rfl⟩))
     (c_ (DG (j:=6) rA (fU my).names [8] i7.nd rfl rfl rfl (ke rfl T.lM (a_ f_ d_)) rfl (by decide+kernel) (fun _ _ _ _=>(gA (i:=8) i7.nd rfl (Or.inl rfl))) (fun _ _ _ _=>lC) (fun _ _ _ _=>⟨_,pc0 O.sN sC hr (a_ (gp iS (pc0 O.jD ja hr (a_ (pv 0) (a_ f_ d_))) f_) (a_ (pv 8) d_)),by(try simp only [ir]);rfl⟩))
     (c_ (iO PassesOwn.never rfl (iz (pv 5)) (gA (i:=7) i7.nd rfl (Or.inl rfl)) (e_ (hZ (pm0 (pv 4) O.gn O.zH CQ hr (a_ (pv 7) d_)))))
     (c_ (iO PassesOwn.never rfl (ke rfl T.lM (a_ (pv 2) d_)) (gA (i:=8) i7.nd rfl (Or.inl rfl)) (c_ (gw (i:=9) i7.nd rfl (Or.inl rfl) (pc0 O.jD ja hr (a_ (pv 0) (a_ (gp iJ (pv 1) (pv 8)) d_))))
     (c_ (qZ (iw (ib Qd (gp iJ (pv 1) (pv 8)) (gD gr (by rfl) T.jV aas (a_ (pv 0) d_)) (ij _)) (e_ (gw (i:=9) i7.nd rfl (Or.inl rfl) (pc0 O.Br EJ hr (a_ (pc0 O.jD ja hr (a_ (pv 0) (a_ f_ d_))) (a_ (pv 8) (a_ f_ d_)))))) hG))
     (e_ (hZ (pc0 O.Bt EK hr (a_ (pv 4) (a_ (pv 5) (a_ (pv 6) (a_ (pv 9) (a_ (pc0 O.sN sC hr (a_ (gp iS (pc0 O.jD ja hr (a_ (pv 0) (a_ f_ d_))) f_) (a_ (pv 8) d_))) (a_ (pv 3) d_))))))))))))
     (e_ (gG (iC (a_ (pv 4) (a_ (pv 5) (a_ (pv 6) d_))))))))))),?_⟩
   intro d px nd Wx nxd
   refine⟨d,px,rfl,b_,fun H1 W X1 hW k1=>⟨rfl,?_⟩⟩
   have s0:gb H (upd (upd H px (.own d)) d (.ins A.gk px [])):=fun b o e=>by rw[de (gg e nd),de (gg e Wx)];exact e
   have s1:gb H H1:=fun b o e=>k1 b o (s0 b o e) (gg e nd)
   have hW0:∀b,W b→H b=none:=fun b hb=>s0.free (hW b hb)
   refine⟨_,rfl,by decide,by decide,?_⟩
   refine qX (n:=3) (by decide) (fun m ys σ H2=>∃(v8:Option V),σ=[some (.ref a),some (.int first),some (.int n),some (.bl bk),some (.ref d),none,none,none,v8,none]∧H2=H1∧ys=gh ((List.range m).map fun(j:Nat)=>nameOf (BE ns 0) j)) ⟨none,rfl,rfl,rfl⟩ (fun m ys σ H2 ⟨_,_,_,e⟩=>by rw[e];simp) ?_ ?_
   · rintro m ys σ H2 hm ⟨v8,rfl,rfl,rfl⟩
     refine⟨_,rfl,a,ns,0,rfl,qm ha s1,by decide,_,_,rfl,rfl,(by show(0:Int)<20736;decide),_,rfl,_,_,rfl,?_⟩
     refine⟨_,rfl,rfl,?_⟩
     rw[abF,aam,←mw]
     show _++[V.str (nameOf (BE ns 0) (0+(m:Int)))]=_
     rw[Int.zero_add]
     rfl
   rintro ys σ H2 ⟨v8,rfl,rfl,rfl⟩ ss O7
   have s2:=s1.new (o:=.lst (gh (qx ns))) O7
   have X2:=X1.same ((gb.refl H2).new (o:=.lst (gh (qx ns))) O7)
   have SH:(upd H2 ss (.lst (gh (qx ns)))) ss=some (.lst (gh (qx ns))):=b_
   have WL:gh ((List.range 3).map fun(j:Nat)=>nameOf (BE ns 0) j)=gh (qx ns):=rfl
   rw[WL]
   generalize upd H2 ss (.lst (gh (qx ns)))=H3 at s2 X2 SH
   refine⟨_,rfl,by decide,by decide,?_⟩
   refine qX (n:=2) (by decide) (fun m ys σ H2=>∃(v8:Option V),σ=[some (.ref a),some (.int first),some (.int n),some (.bl bk),some (.ref d),some (.ref ss),none,none,v8,none]∧H2=H3∧ys=gh ((List.range m).map fun(j:Nat)=>nameOf (BE ns 1) j)) ⟨none,rfl,rfl,rfl⟩ (fun m ys σ H2 ⟨_,_,_,e⟩=>by rw[e];simp) ?_ ?_
   · rintro m ys σ H2 hm ⟨v8,rfl,rfl,rfl⟩
     refine⟨_,rfl,a,ns,1,rfl,qm ha s2,by decide,_,_,rfl,rfl,(by show(0:Int)<20736;decide),_,rfl,_,_,rfl,?_⟩
     refine⟨_,rfl,rfl,?_⟩
     rw[abF,aam,←mw]
     show _++[V.str (nameOf (BE ns 1) (0+(m:Int)))]=_
     rw[Int.zero_add]
     rfl
   rintro ys σ H4 ⟨v8,rfl,rfl,rfl⟩ fs qM
   have WM:gh ((List.range 2).map fun(j:Nat)=>nameOf (BE ns 1) j)=gh (nc ns):=rfl
   rw[WM]
   have s3:=s2.new (o:=.lst (gh (nc ns))) qM
   have X3:=X2.same ((gb.refl H4).new (o:=.lst (gh (nc ns))) qM)
   have O_:=ig (u:=.lst (gh (nc ns))) qM SH
   have SI:(upd H4 fs (.lst (gh (nc ns)))) fs=some (.lst (gh (nc ns))):=b_
   generalize upd H4 fs (.lst (gh (nc ns)))=H5 at s3 X3 O_ SI
   refine⟨_,rfl,ss,rfl,⟨_,hV.of O_⟩,jr (K:=K) (a:=ss) (xs:=gh (qx ns)) (fun i σ H6=>∃(v7:Option V)(D:Dk)(W:Addr→Prop),σ=[some (.ref a),some (.int first),some (.int n),some (.bl bk),some (.ref d),some (.ref ss),some (.ref fs),v7,none,none]∧gb H H6∧H6 ss=some (.lst (gh (qx ns)))∧H6 fs=some (.lst (gh (nc ns)))∧ik A H6 d D W∧(∀b,W b→H b=none)∧Inv D∧D.made=[]∧D.stores=(qx ns).take i)
     ⟨none,S8,W,rfl,s3,O_,SI,X3,hW0,U6,rfl,rfl⟩ (fun i σ H6 _ ⟨_,_,_,_,_,e,_⟩=>hV.of e) ?_ ?_⟩
   · rintro i v σ H6 hx ⟨v7,D,W,rfl,s6,h1,h2,X6,SJ,I6,PX,Pa⟩
     obtain⟨st,zZ,rfl⟩:=kT hx
     have g:=su st (VI zZ)
     have Pw:i<3:=(RL.mp zZ).1
     have Ma:st∉D.stores:=fun hm=>by
       rw[Pa] at hm
       obtain⟨j,hj⟩:=aaI.mp hm
       have Ic:j<i:=by have:=(RL.mp hj).1;rw[aau] at this;omega
       rw[abm,aap Ic] at hj
       have:=(abu (RL.mp hj).1 (HV ns)).mp (hj.trans zZ.symm)
       omega
     obtain⟨π,y⟩:=id X6
     refine⟨_,rfl,d,π.dx,_,rfl,y.hd,(Il _ _ _).1,_,rfl,d,D,W,st,rfl,X6,g.ua,?_,fun h=>absurd g h,fun _ h=>absurd h Ma,fun _ _ H7 W7 X7 s7 hW7=>?_⟩
     · rw[Pa,aau];omega
     · refine⟨_,D.begin st,W7,rfl,fun b o e=>?_,s7 _ _ h1 (X6.lst h1),s7 _ _ h2 (X6.lst h2),X7,fun b hb=>?_,I6.begin Ma,PX,?_⟩
       · exact s7 b o (s6 _ _ e) (fun hb=>by rw[SJ b hb] at e;cases e)
       · rcases hW7 b hb with h|h
         · exact SJ b h
         · exact s6.free h
       · show D.stores++[st]=_
         rw[Pa,take_snoc zZ]
   rintro σ H6 ⟨v7,D0,W,rfl,s6,h1,h2,X6,SJ,I6,PX,Pa⟩
   have Pa:D0.stores=qx ns:=by rw[Pa,RF];exact aaj
   refine⟨_,rfl,_,rfl,by omega,by omega,?_⟩
   rw[abq]
   refine lY (fun i σ H7=>∃(v8 v9:Option V)(D:Dk),σ=[some (.ref a),some (.int first),some (.int n),some (.bl bk),some (.ref d),some (.ref ss),some (.ref fs),v7,v8,v9]∧gb H H7∧H7 ss=some (.lst (gh (qx ns)))∧H7 fs=some (.lst (gh (nc ns)))∧ik A H7 d D W∧Inv D∧Sz i D∧D.stores=qx ns∧∀x∈D.names,∃j:Nat,j<i∧x=nameOf (BE ns 3) j)
     ⟨none,none,D0,rfl,s6,h1,h2,X6,I6,⟨by rw[PX];exact UU _,by rw[PX];exact UU _,by rw[PX];exact UU _⟩,Pa,fun x hx=>by unfold Dk.names at hx;rw[PX] at hx;cases hx⟩ ?_ ?_
   · rintro i σ H7 hi ⟨v8,v9,D,rfl,s7,k1,k2,X7,I7,z7,T7,MT⟩
     rw[show(0:Int)+(i:Int)=(i:Int) by omega]
     refine⟨_,rfl,_,rfl,_,rfl,_,_,rfl,rfl,a,ns,_,rfl,qm ha s7,by omega,?_⟩
     refine⟨fun σ H8=>∃c:Int,σ=[some (.ref a),some (.int first),some (.int n),some (.bl bk),some (.ref d),some (.ref ss),some (.ref fs),v7,some (.int i),some (.int c)]∧H8=H7,?_,?_⟩
     · refine⟨_,rfl,_,rfl,_,_,rfl,rfl,_,rfl,a,_,rfl,.inl (qm ha s7),_,_,rfl,rfl,_,rfl,?_⟩
       refine jT (fun _=>?_) (fun _=>⟨_,rfl,rfl⟩)
       refine⟨_,rfl,a,ns,2,rfl,qm ha s7,by decide,_,rfl,_,_,_,rfl,by decide,by omega,by omega,fun x=>⟨x,rfl,rfl⟩⟩
     rintro σ H8 ⟨c,rfl,rfl⟩
     refine⟨_,rfl,_,rfl,_,rfl,_,rfl,_,rfl,a,ns,3,rfl,qm ha s7,by decide,_,_,rfl,rfl,(by show(0:Int)<20736;decide),_,rfl,_,_,rfl,_,rfl,?_⟩
     have gx:=pM (BE ns 3) (i:Int)
     refine⟨d,ss,fs,D,W,i,qx ns,nc ns,c,_,bk,rfl,X7,I7,z7,by omega,k1,(by unfold qx;simp),(by show 3≤1000;decide),fun t ht=>⟨by rw[T7];exact ht,(su t ht).ua⟩,k2,(by unfold nc;simp),(by show 2≤1000;decide),zY,gx,fun hm=>?_,fun t ht=>?_,fun H9 D' X9 s9 I9 z9 hs9 hn9=>?_⟩
     · obtain⟨j,hj,e⟩:=MT _ hm
       have:=Ey (by omega) (by omega) (by omega) (by omega) e
       omega
     · obtain⟨j,hj,e⟩:=MT _ ht
       rw[e];exact(pM _ _).ua
     · refine⟨_,_,D',rfl,fun b o e=>s9 b o (s7 _ _ e) (fun hb=>by rw[SJ b hb] at e;cases e),s9 _ _ k1 (X7.lst k1),s9 _ _ k2 (X7.lst k2),X9,I9,z9,hs9.trans T7,fun t ht=>?_⟩
       rcases hn9 with e|e
       · rw[e] at ht
         obtain⟨j,hj,e⟩:=MT _ ht
         exact⟨j,by omega,e⟩
       · rw[e] at ht
         rcases aaa.mp ht with ht|ht
         · obtain⟨j,hj,e⟩:=MT _ ht
           exact⟨j,by omega,e⟩
         · exact⟨i,by omega,UP.mp ht⟩
   · rintro σ H7 ⟨v8,v9,D,rfl,s7,k1,k2,X7,I7,z7,T7,MT⟩
     refine⟨_,rfl,_,rfl,_,rfl,L2.jK,fun b hb=>?_⟩
     have s8:=s7.new (o:=.lst [.ref d,.ref ss,.ref fs]) hb
     exact q b d ss fs D W _ ⟨s8,s7.free hb,b_,ig hb k1,ig hb k2,X7.same ((gb.refl H7).new hb),SJ,I7,z7,T7,MT⟩
end
theorem BF(l:List Bool):Paired (fun(x:Bool) (v:V)=>v=.bl x) l (l.map V.bl):=by
 induction l with
 | nil=>exact .nil
 | cons x r ih=>exact .cons rfl ih
theorem Om{n:Nat}{K:PySem.W.Frag}{H:Hp}{a c:Addr}{x y:List Bool}(h1:hV K H a (x.map V.bl))(h2:hV K H c (y.map V.bl)):n5 K H (n+1) (.ref a) (.ref c) (decide (x=y)):=
 n5.Gn (F:=fun(x:Bool) (v:V)=>v=.bl x) (fun p q u v hu hv=>by subst hu hv;exact n5.Qx p q) h1 h2 (BF x) (BF y)
inductive Dv where
 | s (x:Str)
 | i (n:Int)
 | l (xs:List Dv)
 | t (xs:List Dv)
inductive Rep(H:Hp):Nat→V→Dv→Prop
 | s {n x}:Rep H n (.str x) (.s x)
 | i {n x}:Rep H n (.int x) (.i x)
 | l {n a vs xs} (h:H a=some (.lst vs)) (hl:vs.length=xs.length) (hr:∀(j:Nat) u d,vs[j]?=some u→xs[j]?=some d→Rep H n u d):Rep H (n+1) (.ref a) (.l xs)
 | t {n a vs xs} (h:H a=some (.tup vs)) (hl:vs.length=xs.length) (hr:∀(j:Nat) u d,vs[j]?=some u→xs[j]?=some d→Rep H n u d):Rep H (n+1) (.ref a) (.t xs)
theorem Rep.same{H H':Hp}{n:Nat}{v:V}{d:Dv}(r:Rep H n v d)(s:gb H H'):Rep H' n v d:=by
 induction r with
 | s=>exact .s
 | i=>exact .i
 | l h hl _ ih=>exact .l (s _ _ h) hl ih
 | t h hl _ ih=>exact .t (s _ _ h) hl ih
theorem Rep.up{H:Hp}{n:Nat}{v:V}{d:Dv}(r:Rep H n v d):Rep H (n+1) v d:=by
 induction r with
 | s=>exact .s
 | i=>exact .i
 | l h hl _ ih=>exact .l h hl ih
 | t h hl _ ih=>exact .t h hl ih
theorem Rep.mono{H:Hp}{n m:Nat}{v:V}{d:Dv}(r:Rep H n v d)(h:n≤m):Rep H m v d:=by
 obtain⟨k,rfl⟩:=Nat.exists_eq_add_of_le h
 induction k with
 | zero=>exact r
 | succ k ih=>exact(ih (by omega)).up
theorem all_true(n:Nat):((List.range n).all fun _=>true)=true:=by rw[abg];intro x _;rfl
theorem Rep.eq{K:PySem.W.Frag}{H:Hp}{n:Nat}{u v:V}{d:Dv}(r1:Rep H n u d):Rep H n v d→n5 K H n u v true:=by
 induction r1 generalizing v with
 | @s n x=>
   intro r2
   cases r2
   have:=n5.IS (K:=K) (H:=H) (n:=n) x x
   rw[UW rfl] at this
   exact this
 | @i n x=>
   intro r2
   cases r2
   have:=n5.Nw (K:=K) (H:=H) (n:=n) x x
   rw[UW rfl] at this
   exact this
 | @l n a vs xs h hl hr ih=>
   intro r2
   cases r2 with
   | @l _ c ws _ h' Ie WO=>
     have:=n5.lists (K:=K) (H:=H) (n:=n) (e:=fun _=>true) (hV.of h) (hV.of h') (hl.trans Ie.symm) fun j u v hu hv=>by
       have hj:j<xs.length:=by rw[←hl];exact(RL.mp hu).1
       exact ih j u _ hu (UR hj) (WO j v _ hv (UR hj))
     rw[all_true] at this
     exact this
 | @t n a vs xs h hl hr ih=>
   intro r2
   cases r2 with
   | @t _ c ws _ h' Ie WO=>
     have:=n5.oH (K:=K) (H:=H) (n:=n) (e:=fun _=>true) (vK.of h) (vK.of h') fun j u v hu hv=>by
       have hj:j<xs.length:=by rw[←hl];exact(RL.mp hu).1
       exact ih j u _ hu (UR hj) (WO j v _ hv (UR hj))
     rw[all_true,hl,Ie,beq_self_eq_true,Bool.and_true] at this
     exact this
theorem Rep.sS{H:Hp}{n:Nat}{a:Addr}{β:Type}{F:V→β→Prop}{g:β→Dv}{vs:List V}{xs:List β}(h:H a=some (.lst vs))(p:Paired F vs xs)(hF:∀v x,F v x→Rep H n v (g x)):Rep H (n+1) (.ref a) (.l (xs.map g)):=by
 refine .l h (by rw[RF];exact Paired.length p) fun j u d hu hd=>?_
 obtain⟨x,hx,f⟩:=iy p hu
 rw[aah,hx] at hd
 cases hd
 exact hF u x f
theorem Rep.strs{H:Hp}{a:Addr}{n:Nat}{l:List Str}(h:H a=some (.lst (gh l))):Rep H (n+1) (.ref a) (.l (l.map Dv.s)):=by
 refine .l h (by rw[RF,RF]) fun j u d hu hd=>?_
 obtain⟨x,hx,rfl⟩:=kT hu
 rw[aah,hx] at hd
 cases hd
 exact .s
theorem Rep.two{H:Hp}{a:Addr}{n:Nat}{u v:V}{x y:Dv}(h:H a=some (.lst [u,v]))(h1:Rep H n u x)(h2:Rep H n v y):Rep H (n+1) (.ref a) (.l [x,y]):=by
 refine .l h rfl fun j u' d hu hd=>?_
 match j with
 | 0=>cases hu;cases hd;exact h1
 | 1=>cases hu;cases hd;exact h2
 | j+2=>simp at hu
theorem Rep.three{H:Hp}{a:Addr}{n:Nat}{u v w:V}{x y z:Dv}(h:H a=some (.lst [u,v,w]))(h1:Rep H n u x)(h2:Rep H n v y)(h3:Rep H n w z):Rep H (n+1) (.ref a) (.l [x,y,z]):=by
 refine .l h rfl fun j u' d hu hd=>?_
 match j with
 | 0=>cases hu;cases hd;exact h1
 | 1=>cases hu;cases hd;exact h2
 | 2=>cases hu;cases hd;exact h3
 | j+3=>simp at hu
def Oo(row:List Ln):Dv:=.l (row.map fun l=>.t [.s l.nm.1,.i l.nm.2,.s l.tx])
def U8(qs:List (Nat×Nat)):Dv:=.l (qs.map fun q=>.t [.i q.1,.i q.2])
theorem JY.rep{H:Hp}{a:Addr}{row:List Ln}(x:JY H a row):Rep H 2 (.ref a) (Oo row):=by
 obtain⟨vs,h,p⟩:=x
 refine Rep.sS h p fun v l ⟨t,e,ht⟩=>?_
 subst e
 refine .t ht rfl fun j u d hu hd=>?_
 match j with
 | 0=>cases hu;cases hd;exact .s
 | 1=>cases hu;cases hd;exact .i
 | 2=>cases hu;cases hd;exact .s
 | j+3=>simp at hu
theorem HW{H:Hp}{a:Addr}{vs:List V}{qs:List (Nat×Nat)}(h:H a=some (.lst vs))(x:iX H qs vs):Rep H 2 (.ref a) (U8 qs):=by
 refine .l h (by rw[RF];exact(Paired.length x).symm) fun j u d hu hd=>?_
 obtain⟨q,hq,b,e,hb⟩:=lj x hu
 subst e
 rw[aah,hq] at hd
 cases hd
 refine .t hb rfl fun j u d hu hd=>?_
 match j with
 | 0=>cases hu;cases hd;exact .i
 | 1=>cases hu;cases hd;exact .i
 | j+2=>simp at hu
noncomputable def GO(D:Dk)(s:Str)(files:List Str):Dv:=.l (files.map fun f=>.l [Oo (D.row s f),U8 (D.AF s f)])
section
variable{P:Program}{w:World}{K:PySem.W.Frag}{mg:Str→Option Value}{base:Heap}{A:Ad}
def HX(i:Int):List Bool:=(List.range 9).map fun(k:Nat)=>decide ((k:Int)=i)||decide (k=8)
def Q2:Sp:=fun vs H Q _=>∃(i:Int),vs=[.int i]∧∀p,H p=none→Q (.ref p) (upd H p (.lst ((HX i).map V.bl)))
theorem Oq(T:Txt mg)(O:Ok K mg A):ie P w K mg base lZ 1 A.zC A.zD ["place"] Q2:=by
 refine O.Ee.f.ok xj (fun vs H Q E h=>?_) (fun jd A outer s H vs Q E hr h=>?_)
 · obtain⟨i,rfl,_⟩:=h
   rfl
 · obtain⟨i,rfl,q⟩:=h
   refine⟨_,(e_ (gG (qW zr (fU qc).names [1] rfl (ke rfl T.lM (a_ f_ d_)) rfl (by decide+kernel) (fun _ _ _ _=>(gA (i:=1) xj.nd rfl (Or.inl rfl))) (fun _ _ _ _=>lC) (fun _ _ _ _=>⟨_,(P4 (yr jO (pv 1) (pv 0) (ij _)) (M6 (yr jO (pv 1) f_ (ij _)))),by(try simp only [ir]);rfl⟩)))),?_⟩
   refine⟨_,rfl,by decide,by decide,?_⟩
   refine qX (n:=9) (by decide) (fun m ys σ H3=>∃(v:Option V),σ=[some (.int i),v]∧H3=H∧ys=((List.range m).map fun(k:Nat)=>V.bl (decide ((k:Int)=i)||decide (k=8)))) ⟨none,rfl,rfl,rfl⟩ (fun m ys σ H ⟨_,_,_,e⟩=>by rw[e];simp) ?_ ?_
   · rintro m ys σ H3 hm ⟨v,rfl,rfl,rfl⟩
     refine⟨_,rfl,_,rfl,rfl,?_⟩
     have key:∀b:Bool,b=(decide ((m:Int)=i)||decide (m=8))→List.map (fun(k:Nat)=>V.bl (decide ((k:Int)=i)||decide (k=8))) (List.range m)++[V.bl b]=List.map (fun(k:Nat)=>V.bl (decide ((k:Int)=i)||decide (k=8))) (List.range (m+1)):=fun b e=>by
       rw[abF,aam,e];rfl
     refine⟨_,rfl,jT (fun h=>?_) (fun h=>?_)⟩
     · have h:(0:Int)+(m:Int)=i:=V.int.inj (aar h)
       exact⟨_,rfl,rfl,key true (by rw[UW (by omega:(m:Int)=i)];rfl)⟩
     · have h:¬(m:Int)=i:=fun z=>h (UW (congrArg V.int (by omega)))
       refine⟨_,rfl,rfl,some (V.int (0+(m:Int))),rfl,rfl,key _ ?_⟩
       rw[XX h,Bool.false_or]
       by_cases e:m=8
       · rw[UW e,UW (congrArg V.int (by omega))]
       · rw[XX e,XX fun z=>e (by have:=V.int.inj z;omega)]
   · rintro ys σ H3 ⟨v,rfl,rfl,rfl⟩ p hp
     have:=q p hp
     unfold HX at this
     rw[List.map_map] at this
     exact this
theorem yh:bootBuiltins "ValueError"=some (.type "ValueError"):=by decide+kernel
structure Wh(K:PySem.W.Frag)(A:Ad)(C:Addr)(i:Int):Prop where
 y:DJ K C
 b0:PySem.W.kitOne K (.ref C) (.ref A.i5)=some (decide ((0:Int)=i))
 b1:PySem.W.kitOne K (.ref C) (.ref A.iQ)=some (decide ((1:Int)=i))
 b2:PySem.W.kitOne K (.ref C) (.ref A.gj)=some (decide ((2:Int)=i))
 b3:PySem.W.kitOne K (.ref C) (.ref A.jc)=some (decide ((3:Int)=i))
 b4:PySem.W.kitOne K (.ref C) (.ref A.kS)=some (decide ((4:Int)=i))
 b5:PySem.W.kitOne K (.ref C) (.ref A.jB)=some (decide ((5:Int)=i))
 b6:PySem.W.kitOne K (.ref C) (.ref A.oQ)=some (decide ((6:Int)=i))
 b7:PySem.W.kitOne K (.ref C) (.ref A.oE)=some (decide ((7:Int)=i))
 b8:PySem.W.kitOne K (.ref C) (.type "ValueError")=some true
def LU(K:PySem.W.Frag)(A:Ad):Sp:=fun vs H Q _=>∃(e C:Addr)(i:Int),vs=[.ref e]∧H e=some (Ho e C)∧Wh K A C i∧i≠8∧∀p H',gb H H'→H p=none→H' p=some (.lst ((HX i).map V.bl))→Q (.ref p) H'
theorem LV{i:Int}(h:i≠8):(HX i).map V.bl=([V.bl (decide ((0:Int)=i)),V.bl (decide ((1:Int)=i)),V.bl (decide ((2:Int)=i)),V.bl (decide ((3:Int)=i))]++[V.bl (decide ((4:Int)=i)),V.bl (decide ((5:Int)=i)),V.bl (decide ((6:Int)=i)),V.bl (decide ((7:Int)=i))])++[V.bl true]:=by
 unfold HX
 simp[abF]
theorem J_(T:Txt mg)(O:Ok K mg A):Jb P w K mg base 1 A.vd A.ve ["e"] (LU K A):=by
 refine O.qh.f.okH oO (fun vs H Q E h=>?_) (fun jd A0 outer s H vs Q E hr h=>?_)
 · obtain⟨e,C,i,rfl,_⟩:=h
   rfl
 · obtain⟨e,C,i,rfl,he,W,hi,q⟩:=h
   refine⟨_,(c_ (gw (i:=1) oO.nd rfl (Or.inl rfl) (iC (a_ (gD kG (by rfl) T.jj aaJ (a_ (pv 0) (a_ (lx (v:=.ref _) (by rfl) O.wA.m rfl) d_))) (a_ (gD kG (by rfl) T.jj aaJ (a_ (pv 0) (a_ (lx (v:=.ref _) (by rfl) O.rW.m rfl) d_))) (a_ (gD kG (by rfl) T.jj aaJ (a_ (pv 0) (a_ (lx (v:=.ref _) (by rfl) O.Bv.m rfl) d_))) (a_ (gD kG (by rfl) T.jj aaJ (a_ (pv 0) (a_ (lx (v:=.ref _) (by rfl) O.wB.m rfl) d_))) d_))))))
     (c_ (gw (i:=1) oO.nd rfl (Or.inl rfl) (gp kZ (pv 1) (iC (a_ (gD kG (by rfl) T.jj aaJ (a_ (pv 0) (a_ (lx (v:=.ref _) (by rfl) O.Ef.m rfl) d_))) (a_ (gD kG (by rfl) T.jj aaJ (a_ (pv 0) (a_ (lx (v:=.ref _) (by rfl) O.xT.m rfl) d_))) (a_ (gD kG (by rfl) T.jj aaJ (a_ (pv 0) (a_ (lx (v:=.ref _) (by rfl) O.Fu.m rfl) d_))) (a_ (gD kG (by rfl) T.jj aaJ (a_ (pv 0) (a_ (lx (v:=.ref _) (by rfl) O.Gx.m rfl) d_))) d_)))))))
     (e_ (gG (gp kZ (pv 1) (iC (a_ (gD kG (by rfl) T.jj aaJ (a_ (pv 0) (a_ (KU (v:=.ty "ValueError") (by rfl) T.Cg yh rfl) d_))) d_))))))),?_⟩
   refine⟨_,rfl,e,C,_,_,_,rfl,rfl,(fun u h=>h),he,W.y,W.b0,?_⟩
   refine⟨_,rfl,e,C,_,_,_,rfl,rfl,(fun u h=>h),he,W.y,W.b1,?_⟩
   refine⟨_,rfl,e,C,_,_,_,rfl,rfl,(fun u h=>h),he,W.y,W.b2,?_⟩
   refine⟨_,rfl,e,C,_,_,_,rfl,rfl,(fun u h=>h),he,W.y,W.b3,?_⟩
   refine⟨L2.jK,fun l1 RI=>?_⟩
   have s1:∀o,gb H (upd H l1 o):=fun o=>(gb.refl H).new RI
   refine⟨_,rfl,?_⟩
   refine⟨_,rfl,e,C,_,_,_,rfl,rfl,(fun u h=>h),(s1 _ e _ he),W.y,W.b4,?_⟩
   refine⟨_,rfl,e,C,_,_,_,rfl,rfl,(fun u h=>h),(s1 _ e _ he),W.y,W.b5,?_⟩
   refine⟨_,rfl,e,C,_,_,_,rfl,rfl,(fun u h=>h),(s1 _ e _ he),W.y,W.b6,?_⟩
   refine⟨_,rfl,e,C,_,_,_,rfl,rfl,(fun u h=>h),(s1 _ e _ he),W.y,W.b7,?_⟩
   refine⟨L2.jK,fun l2 EN=>?_⟩
   have s2:=fun o=>gb.new (o:=o) (s1 _) EN
   refine⟨l1,l2,_,_,rfl,rfl,ig EN b_,b_,aac (m:=8) (by simp) (by decide),fun l3 hl3=>?_⟩
   have s3:=fun o=>gb.new (o:=o) (s2 _) hl3
   refine⟨_,rfl,?_⟩
   refine⟨_,rfl,e,C,_,_,_,rfl,rfl,(fun u h=>h),(s3 _ e _ he),W.y,W.b8,?_⟩
   refine⟨L2.jK,fun l4 Zj=>?_⟩
   have s4:=fun o=>gb.new (o:=o) (s3 _) Zj
   refine⟨l3,l4,_,_,rfl,rfl,ig Zj b_,b_,aac (m:=9) (by simp) (by decide),fun l5 RM=>?_⟩
   refine q l5 _ ((s4 _).new RM) ((s4 _).free RM) ?_
   rw[LV hi]
   exact b_
def Ot(A:Ad):Sp:=fun vs H Q _=>∃(d fs:Addr)(D:Dk)(W:Addr→Prop)(s:Str)(files:List Str),vs=[.ref d,.str s,.ref fs]∧ik A H d D W∧Inv D∧Small D.made∧s∈D.stores∧jw s∧H fs=some (.lst (gh files))∧files.length≤1000∧∀p H',gb H H'→H p=none→Rep H' 4 (.ref p) (GO D s files)→Q (.ref p) H'
theorem LW(T:Txt mg)(O:Ok K mg A):ie P w K mg base lZ 7 A.xQ A.xR ["desk","store","files"] (Ot A):=by
 have nO:=(FF (P:=P) (w:=w) (base:=base) T O).IW
 have kc:=(sj (P:=P) (w:=w) (base:=base) T O).IW
 refine O.wz.f.ok uV (fun vs H Q E h=>?_) (fun jd A0 outer s H vs Q E hr h=>?_)
 · obtain⟨d,fs,D,W,s,files,rfl,_⟩:=h
   rfl
 · obtain⟨d,fs,D,W,st,files,rfl,X,I,sm,hs,FW,qM,Y3,q⟩:=h
   obtain⟨π,y⟩:=id X
   have sz:sizeLine=16777216:=aav
   refine⟨_,(e_ (gG (qW xi (fU oq).names [3] rfl (iz (pv 2)) rfl (by decide+kernel) (fun _ _ _ _=>(gA (i:=3) uV.nd rfl (Or.inl rfl))) (fun _ _ _ _=>lC) (fun _ _ _ _=>⟨_,iC (a_ (pm0 (pv 0) O.gn O.vk nO hr (a_ (pv 1) (a_ (pv 3) d_))) (a_ (pm0 (pv 0) O.gn O.ml kc hr (a_ (pv 1) (a_ (pv 3) d_))) d_)),by(try simp only [ir]);rfl⟩)))),?_⟩
   refine⟨_,rfl,fs,rfl,⟨_,hV.of qM⟩,j2 (K:=K) (a:=fs) (xs:=gh files) (by rw[RF];omega) (fun i ys σ H4=>∃(v3:Option V),σ=[some (.ref d),some (.str st),some (.ref fs),v3]∧gb H H4∧Paired (fun v f=>Rep H4 3 v (.l [Oo (D.row st f),U8 (D.AF st f)])) ys (files.take i))
     ⟨none,rfl,gb.refl _,.nil⟩ (fun i ys σ H4 _ ⟨_,_,e,e2⟩=>⟨hV.of (e _ _ qM),by rw[Paired.length e2,aau];omega⟩) ?_ ?_⟩
   · rintro i v ys σ H4 hx ⟨v3,rfl,s4,e2⟩
     obtain⟨f,hf,rfl⟩:=kT hx
     refine⟨_,rfl,d,π.dx,_,rfl,s4 _ _ y.hd,(ux _ _ _).2.2.2.1,_,rfl,_,rfl,d,D,W,st,f,rfl,X.same s4,FW,sm,I,fun h=>absurd hs h,fun _ r H5 Me sx CN=>?_⟩
     have s5:=s4.trans Me
     refine⟨_,rfl,d,π.dx,_,rfl,s5 _ _ y.hd,(ux _ _ _).2.2.2.2.1,_,rfl,_,rfl,d,D,W,st,f,rfl,X.same s5,FW,sm,I,fun h=>absurd hs h,fun _ c H6 qs MR TR RU WQ=>⟨L2.jK,fun u hu=>?_⟩⟩
     have WR:gb H6 (upd H6 u (.lst [.ref r,.ref c])):=(gb.refl H6).new hu
     have Zk:=(Me.trans MR).trans WR
     refine⟨_,rfl,s4.trans Zk,?_⟩
     rw[take_snoc hf]
     refine il (Paired.kx e2 fun _ _ z=>z.same Zk) ?_
     exact Rep.two b_ ((CN.rep.same MR).same WR) ((HW RU WQ).same WR)
   · rintro ys σ H4 ⟨v3,rfl,s4,e2⟩ p hp
     rw[RF,aaj] at e2
     have s5:gb H4 (upd H4 p (.lst ys)):=(gb.refl H4).new hp
     exact q p _ (s4.trans s5) (s4.free hp) (Rep.sS b_ e2 fun _ _ z=>z.same s5)
end
def NS:Str:=Str.ofString "nostore"
theorem EB(c k:Int):nameOf c k≠NS:=by
 intro h
 have b:=mod_lt c 12 (by decide)
 have hl:=(vE c k (1+c%12).toNat).1
 have EN:(jY c k (1+c%12).toNat).length=7:=by
   have:(nameOf c k).length=NS.length:=congrArg Str.length h
   rw[show NS.length=7 by decide+kernel] at this
   exact this
 have hc:(1+c%12).toNat=7:=hl.symm.trans EN
 have WQ:1+c%12=7:=by omega
 have at_:∀j:Nat,j<7→NS.cps.toList[j]?=some (if(j:Int)=c/12%7 then zW (k+c/144) else zW (c/144+5*(j:Int)+c/5184%2*k*7)):=fun j hj=>by
   have:=yB c k 7 j hj
   rw[WQ] at this
   have e:jY c k 7=NS:=by have h:jY c k (1+c%12).toNat=NS:=h;rw[hc] at h;exact h
   rw[e] at this
   exact this
 have b2:=mod_lt (c/12) 7 (by decide)
 generalize c/5184%2*k*7=Pj at at_
 have one:∀{j:Nat} {x:Nat} {i:Int},j<7→¬(j:Int)=c/12%7→NS.cps.toList[j]?=some x→zW i=x→(c/144+5*(j:Int)+Pj)%36=i%36:=fun{j x i} hj hn hx hi=>by
   have:=at_ j hj
   rw[aak hn,hx] at this
   exact BD ((aat this).symm.trans hi.symm)
 by_cases h0:c/12%7=0∨c/12%7=1
 · have e3:=one (j:=3) (x:=116) (i:=19) (by decide) (by omega) (by decide+kernel) (by decide+kernel)
   have e4:=one (j:=4) (x:=111) (i:=14) (by decide) (by omega) (by decide+kernel) (by decide+kernel)
   omega
 · have e3:=one (j:=0) (x:=110) (i:=13) (by decide) (by omega) (by decide+kernel) (by decide+kernel)
   have e4:=one (j:=1) (x:=111) (i:=14) (by decide) (by omega) (by decide+kernel) (by decide+kernel)
   omega
theorem Ou(ns:List Int):NS∉qx ns:=by
 intro h
 unfold qx at h
 simp only [XU,abl,or_false] at h
 rcases h with h|h|h<;>exact EB _ _ h.symm
theorem vG{x:Str}(h:x.length≤1000)(h2:x.cps.toList.all (fun c=>decide (c<1114112))=true):jw x:=GK h fun c hc=>aar (abg.mp h2 c hc)
theorem CJ:jw (Str.ofString ""):=vG (by decide+kernel) (by decide+kernel)
theorem Ov:jw (Str.ofString "-"):=vG (by decide+kernel) (by decide+kernel)
theorem GQ:jw NS:=vG (by decide+kernel) (by decide+kernel)
theorem yC:jw (Str.ofString "nobody"):=vG (by decide+kernel) (by decide+kernel)
theorem Ka(x:Str):∀l:List Str,Qj (.str x) (gh l)=decide (x∈l):=by
 intro l
 unfold Qj
 rw[abe,List.any_map,List.any_eq_true,decide_eq_true_iff]
 constructor
 · rintro⟨y,hy,e⟩
   have e:(y ==x)=true:=e
   rw[←eq_of_beq e];exact hy
 · exact fun h=>⟨x,h,by show(x ==x)=true;exact beq_self_eq_true x⟩
section
variable{P:Program}{w:World}{K:PySem.W.Frag}{mg:Str→Option Value}{base:Heap}{A:Ad}
theorem FO(O:Ok K mg A):Wh K A A.gj 2:=⟨O.HC,O.jG,O.jf,O.jH,O.jI,O.jW,O.jg,O.kD,O.j_,O.rY⟩
structure EC(A:Ad)(H:Hp)(d:Addr)(D:Dk)(W:Addr→Prop)(s o f:Str):Prop where
 X:ik A H d D W
 I:Inv D
 z:Sz 35 D
 no:s∉D.stores
 yes:o∈D.stores
 fs:jw s
 fo:jw o
 gf:Good f
 fn:∀x∈D.names,jw x
def Q3(A:Ad):Sp:=fun vs H Q E=>∃(d:Addr)(D:Dk)(W:Addr→Prop)(n:Int)(s o f:Str),vs=[.ref d,.int n,.str s,.str o,.str f]∧EC A H d D W s o f∧∀H',gb H H'→E (.ref A.gj) none H'
theorem Ow(T:Txt mg)(O:Ok K mg A):ie P w K mg base (sH P w) 7 A.zE A.zF ["desk","what","store","other","file"] (Q3 A):=by
 have jN:=FE (P:=P) (w:=w) (base:=base) T O
 have CS:=Eu (P:=P) (w:=w) (base:=base) T O
 have nO:=FF (P:=P) (w:=w) (base:=base) T O
 have kc:=sj (P:=P) (w:=w) (base:=base) T O
 have EL:=FG (P:=P) (w:=w) (base:=base) T O
 have oX:=BC (P:=P) (w:=w) (base:=base) T O
 have ud:=J4 (P:=P) (w:=w) (base:=base) T O
 have sy:=GH (P:=P) (w:=w) (base:=base) T O
 have oG:=GF (P:=P) (w:=w) (base:=base) T O
 have sA:=GG (P:=P) (w:=w) (base:=base) T O
 refine O.vp.f.AD D9 (fun vs H Q E h=>?_) (fun jd A0 outer s H vs Q E hr h=>?_)
 · obtain⟨d,D,W,n,s,o,f,rfl,_⟩:=h
   rfl
 · obtain⟨d,D,W,n,st,o,f,rfl,⟨X,I,z,no,yes,qM,T1,gf,KC⟩,qe⟩:=h
   obtain⟨π,y⟩:=id X
   have sm:=z.small (by decide)
   have E0:=qe H (gb.refl H)
   refine⟨_,(c_ (iw (ib jO (pv 1) f_ (ij _)) (e_ (gG (pm1 bx (pv 0) O.gn O.lP jN hr (a_ (pv 2) d_)))) hG)
     (c_ (iw (ib jO (pv 1) f_ (ij _)) (e_ (gG (pm1 bx (pv 0) O.gn O.zK CS hr (a_ (pv 2) d_)))) hG)
     (c_ (iw (ib jO (pv 1) f_ (ij _)) (e_ (gG (pm1 bx (pv 0) O.gn O.vk nO hr (a_ (pv 2) (a_ (pv 4) d_))))) hG)
     (c_ (iw (ib jO (pv 1) f_ (ij _)) (e_ (gG (pm1 bx (pv 0) O.gn O.ml kc hr (a_ (pv 2) (a_ (pv 4) d_))))) hG)
     (c_ (iw (ib jO (pv 1) f_ (ij _)) (e_ (gG (pm1 bx (pv 0) O.gn O.Bq EL hr (a_ (pv 2) (a_ (pv 4) d_))))) hG)
     (c_ (iw (ib jO (pv 1) f_ (ij _)) (e_ (gG (pm1 bx (pv 0) O.gn O.rV oX hr (a_ (pv 2) (a_ ix (a_ (pv 4) (a_ (iC (a_ ix d_)) d_))))))) hG)
     (c_ (iw (ib jO (pv 1) f_ (ij _)) (e_ (gG (pm1 bx (pv 0) O.gn O.zI ud hr (a_ (pv 2) (a_ ix (a_ (pv 4) (a_ (iC d_) d_))))))) hG)
     (c_ (iw (ib jO (pv 1) f_ (ij _)) (e_ (gG (pm1 bx (pv 0) O.gn O.wu sy hr (a_ (pv 2) (a_ ix (a_ ix d_)))))) hG)
     (c_ (iw (ib jO (pv 1) f_ (ij _)) (e_ (gG (pm1 bx (pv 0) O.gn O.sL oG hr (a_ (pv 2) (a_ (pv 3) (a_ ix d_)))))) hG)
     (c_ (iw (ib jO (pv 1) f_ (ij _)) (e_ (gG (pm1 bx (pv 0) O.gn O.sL oG hr (a_ (pv 3) (a_ (pv 2) (a_ ix d_)))))) hG)
     (e_ (gG (pm1 bx (pv 0) O.gn O.wx sA hr (a_ (pv 2) (a_ ix d_))))))))))))))),?_⟩
   refine⟨_,rfl,rfl,_,rfl,jT (fun _=>?_) (fun _=>?_)⟩
   · exact⟨_,rfl,d,π.dx,_,rfl,y.hd,(ux _ _ _).1,_,rfl,d,D,W,st,rfl,X,qM,sm.many,fun _=>E0,fun h=>absurd h no⟩
   refine⟨_,rfl,rfl,_,rfl,jT (fun _=>?_) (fun _=>?_)⟩
   · exact⟨_,rfl,d,π.dx,_,rfl,y.hd,(ux _ _ _).2.2.2.2.2.2.2.2.1,_,rfl,d,D,W,st,[],rfl,rfl,X,qM,sm,I,no,(fun v hv=>by cases hv),E0⟩
   refine⟨_,rfl,rfl,_,rfl,jT (fun _=>?_) (fun _=>?_)⟩
   · exact⟨_,rfl,d,π.dx,_,rfl,y.hd,(ux _ _ _).2.2.2.1,_,rfl,_,rfl,d,D,W,st,f,rfl,X,qM,sm,I,fun _=>E0,fun h=>absurd h no⟩
   refine⟨_,rfl,rfl,_,rfl,jT (fun _=>?_) (fun _=>?_)⟩
   · exact⟨_,rfl,d,π.dx,_,rfl,y.hd,(ux _ _ _).2.2.2.2.1,_,rfl,_,rfl,d,D,W,st,f,rfl,X,qM,sm,I,fun _=>E0,fun h=>absurd h no⟩
   refine⟨_,rfl,rfl,_,rfl,jT (fun _=>?_) (fun _=>?_)⟩
   · exact⟨_,rfl,d,π.dx,_,rfl,y.hd,(ux _ _ _).2.2.2.2.2.2.2.2.2,_,rfl,_,rfl,d,D,W,st,[.str f],rfl,rfl,X,qM,sm,I,no,(fun v hv=>⟨f,UP.mp hv⟩),E0⟩
   refine⟨_,rfl,rfl,_,rfl,jT (fun _=>?_) (fun _=>?_)⟩
   · refine⟨_,rfl,d,π.dx,_,rfl,y.hd,(Il _ _ _).2.1,_,rfl,_,rfl,L2.jK,fun l hl=>?_⟩
     have s1:gb H (upd H l (.lst [V.str (Str.ofString "a")])):=(gb.refl H).new hl
     exact⟨d,l,D,W,st,Str.ofString "",f,[Str.ofString "a"],rfl,X.same s1,I,sm,aac z.iD (by decide),qM,CJ,gf.ua,b_,(by decide),fun _=>qe _ s1,fun h=>absurd h no,fun h=>absurd h no,fun h=>absurd h no,fun h=>absurd h no,fun h=>absurd h no⟩
   refine⟨_,rfl,rfl,_,rfl,jT (fun _=>?_) (fun _=>?_)⟩
   · refine⟨_,rfl,d,π.dx,_,rfl,y.hd,(Il _ _ _).2.2.1,_,rfl,_,rfl,L2.jK,fun l hl=>?_⟩
     have s1:gb H (upd H l (.lst [])):=(gb.refl H).new hl
     exact⟨d,l,D,W,st,Str.ofString "",f,[],rfl,X.same s1,I,sm,qM,CJ,gf.ua,b_,(by decide),(fun p hp=>by cases hp),fun _=>qe _ s1,fun h=>absurd h no,fun h=>absurd h no,fun h=>absurd h no,fun h=>absurd h no,fun h=>absurd h no⟩
   refine⟨_,rfl,rfl,_,rfl,jT (fun _=>?_) (fun _=>?_)⟩
   · exact⟨_,rfl,d,π.dx,_,rfl,y.hd,(Il _ _ _).2.2.2.1,_,rfl,d,D,W,st,Str.ofString "",Str.ofString "nobody",rfl,X,I,sm.many,qM,CJ,yC,fun _=>E0,fun h=>absurd h no,fun h=>absurd h no,fun h=>absurd h no,fun h=>absurd h no⟩
   refine⟨_,rfl,rfl,_,rfl,jT (fun _=>?_) (fun _=>?_)⟩
   · exact⟨_,rfl,d,π.dx,_,rfl,y.hd,(Il _ _ _).2.2.2.2.1,_,rfl,_,rfl,d,D,W,st,o,Str.ofString "nobody",rfl,X,I,sm.many,qM,T1,yC,fun _=>E0,fun h=>absurd h no,fun h=>absurd h no,fun h=>absurd h no⟩
   refine⟨_,rfl,rfl,_,rfl,jT (fun _=>?_) (fun _=>?_)⟩
   · exact⟨_,rfl,d,π.dx,_,rfl,y.hd,(Il _ _ _).2.2.2.2.1,_,rfl,_,rfl,d,D,W,o,st,Str.ofString "nobody",rfl,X,I,sm.many,T1,qM,yC,fun h=>absurd yes h,fun _ _=>E0,fun _ h=>absurd h no,fun _ h=>absurd h no⟩
   · exact⟨_,rfl,d,π.dx,_,rfl,y.hd,(Il _ _ _).2.2.2.2.2,_,rfl,d,D,W,st,Str.ofString "nobody",rfl,X,I,sm.many,qM,yC,KC,fun _=>E0,fun h=>absurd h no,fun h=>absurd h no⟩
def Q4(A:Ad):Sp:=fun vs H Q _=>∃(d:Addr)(D:Dk)(W:Addr→Prop)(n:Int)(s o f:Str),vs=[.ref d,.int n,.str s,.str o,.str f]∧EC A H d D W s o f∧∀H',gb H H'→Q (.bl true) H'
theorem EC.same{A:Ad}{H H':Hp}{d:Addr}{D:Dk}{W:Addr→Prop}{s o f:Str}(a:EC A H d D W s o f)(h:gb H H'):EC A H' d D W s o f:=⟨a.X.same h,a.I,a.z,a.no,a.yes,a.fs,a.fo,a.gf,a.fn⟩
theorem FP(T:Txt mg)(O:Ok K mg A):ie P w K mg base lZ 8 A.rK A.rL ["desk","what","store","other","file"] (Q4 A):=by
 have FX:=Ow (P:=P) (w:=w) (base:=base) T O
 have CT:=J_ (P:=P) (w:=w) (base:=base) T O
 have FY:=Oq (P:=P) (w:=w) (base:=base) T O
 refine O.vq.f.ok kX (fun vs H Q E h=>?_) (fun jd A0 outer s H vs Q E hr h=>?_)
 · obtain⟨d,D,W,n,s,o,f,rfl,_⟩:=h
   rfl
 · obtain⟨d,D,W,n,st,o,f,rfl,a,q⟩:=h
   refine⟨_,(c_ (gw (i:=5) kX.nd rfl (Or.inl rfl) (iC d_))
     (c_ (Lf (j:=6) ⟨rfl,rfl,rfl⟩ kX.nd rfl rfl O.Cp.m (by rfl) (fun σ₀ pn E' EX hp=>(e_ (hZ (Ja FX (hr.mono (by decide)) (by rfl) O.vp.m O.vp.f.kp O.vp.b .nil hp (a_ (pv 0) (a_ (pv 1) (a_ (pv 2) (a_ (pv 3) (a_ (pv 4) d_))))))))) (fun e=>(e_ (gw (i:=5) kX.nd rfl (Or.inl rfl) (Jd CT ((hr.mono (by decide)).hand _) (by rfl) O.qh.m O.qh.f.kp O.qh.b (a_ (pv 6) d_))))))
     (e_ (gG (yr (Fe 3 (by exact UT hr)) (pv 5) (pc0 O.Ee FY hr (a_ f_ d_)) (ij _)))))),?_⟩
   refine⟨L2.jK,fun l hl=>?_⟩
   have s1:gb H (upd H l (.lst [])):=(gb.refl H).new hl
   refine⟨rfl,_,rfl,_,rfl,_,rfl,_,rfl,_,rfl,d,D,W,n,st,o,f,rfl,a.same s1,fun H1 s2=>?_⟩
   refine⟨_,rfl,O.pJ,fun e he=>?_⟩
   have s3:=(s1.trans s2).new (o:=Ho e A.gj) he
   refine⟨_,rfl,e,_,_,rfl,b_,FO O,by decide,fun p H4 s4 qN Ig=>?_⟩
   refine⟨_,rfl,2,rfl,fun r hr=>?_⟩
   have s5:=(s3.trans s4).new (o:=.lst ((HX 2).map V.bl)) hr
   refine⟨_,⟨p,r,rfl,rfl⟩,Om (hV.of (ig hr Ig)) (hV.of b_),?_⟩
   rw[UW rfl]
   exact q _ s5
noncomputable def Q5(D:Dk)(sts fls:List Str):Dv:=.l [.l (D.stores.map Dv.s),.l (D.names.map Dv.s),.l (sts.map fun s=>GO D s fls)]
def GR(K:PySem.W.Frag):Sp:=fun vs H Q _=>∃(a:Addr)(ns:List Int),vs=[.ref a]∧hV K H a (ns.map V.int)∧ns.length≤63∧∀H',Q (.bl true) H'
theorem Ox{f:Addr}{fd:FuncData}(F:Ax K "law" "law" DW f fd)(T:Txt mg)(O:Ok K mg A):ie P w K mg base lZ 20 f fd ["script"] (GR K):=by
 have EM:=LS (P:=P) (w:=w) (base:=base) T O
 have ja:=GL (P:=P) (w:=w) (base:=base) T O
 have xW:=LW (P:=P) (w:=w) (base:=base) T O
 have Ac:=FP (P:=P) (w:=w) (base:=base) T O
 have oY:=HK (P:=P) (w:=w) (base:=base) T O
 have nP:=FD (P:=P) (w:=w) (base:=base) T O
 refine F.ok oP (fun vs H Q E h=>?_) (fun jd A0 outer s H vs Q E hr h=>?_)
 · obtain⟨a,ns,rfl,_⟩:=h
   rfl
 · obtain⟨a,ns,rfl,ha,hn,q⟩:=h
   have sz:sizeLine=16777216:=aav
   refine⟨_,(c_ (gw (i:=1) oP.nd rfl (Or.inr rfl) (pc0 O.Bu EM hr (a_ (pv 0) (a_ f_ (a_ (gp iS (pc0 O.jD ja hr (a_ (pv 0) (a_ f_ d_))) f_) (a_ qR d_))))))
     (c_ (gw (i:=2) oP.nd rfl (Or.inr rfl) (iA h_ (pv 1) f_ (fun _ _=>rfl)))
     (c_ (gw (i:=3) oP.nd rfl (Or.inl rfl) (gp kZ (gp kZ (lA (pv 2) O.gn O.j6.t nP (hr.mono (by decide)) O.j6.b .nil lg) (iA h_ (pv 1) f_ (fun _ _=>rfl))) (iC (a_ ix (a_ ix (a_ ix d_))))))
     (c_ (gw (i:=4) oP.nd rfl (Or.inl rfl) (iA h_ (pv 3) (gp iS (pc0 O.jD ja hr (a_ (pv 0) (a_ f_ d_))) (gD gr (by rfl) T.jV aas (a_ (pv 3) d_))) (fun _ _=>rfl)))
     (c_ (qZ (iw (ib Hf (pv 4) (lA (pv 2) O.gn O.kC.t oY (hr.mono (by decide)) O.kC.b .nil lg) rfl) (e_ (gw (i:=4) oP.nd rfl (Or.inl rfl) ix)) hG))
     (c_ (gw (i:=5) oP.nd rfl (Or.inl rfl) (iC (a_ (lA (pv 2) O.gn O.kC.t oY (hr.mono (by decide)) O.kC.b .nil lg) (a_ (lA (pv 2) O.gn O.j6.t nP (hr.mono (by decide)) O.j6.b .nil lg) (a_ (qW JF (fU DW).names [7] rfl (iz (iA h_ (pv 1) f_ (fun _ _=>rfl))) rfl (by decide+kernel) (fun _ _ _ _=>(gA (i:=7) oP.nd rfl (Or.inl rfl))) (fun _ _ _ _=>lC) (fun _ _ _ _=>⟨_,pc0 O.wz xW hr (a_ (pv 2) (a_ (pv 7) (a_ (iA h_ (pv 1) f_ (fun _ _=>rfl)) d_))),by(try simp only [ir]);rfl⟩)) d_)))))
     (c_ (iO PassesOwn.never rfl (ke rfl T.lM (a_ f_ d_)) (gA (i:=6) oP.nd rfl (Or.inl rfl)) (e_ (iw (yG (ET (pc0 O.vq Ac hr (a_ (pv 2) (a_ (pv 6) (a_ (pv 4) (a_ (iA h_ (iA h_ (pv 1) f_ (fun _ _=>rfl)) f_ (fun _ _=>rfl)) (a_ (iA h_ (iA h_ (pv 1) f_ (fun _ _=>rfl)) f_ (fun _ _=>rfl)) d_)))))))) (e_ (gG qR)) hG)))
     (e_ (gG (yr (Fe 9 (by exact UT hr)) (pv 5) (iC (a_ (lA (pv 2) O.gn O.kC.t oY (hr.mono (by decide)) O.kC.b .nil lg) (a_ (lA (pv 2) O.gn O.j6.t nP (hr.mono (by decide)) O.j6.b .nil lg) (a_ (qW JF (fU DW).names [7] rfl (iz (iA h_ (pv 1) f_ (fun _ _=>rfl))) rfl (by decide+kernel) (fun _ _ _ _=>(gA (i:=7) oP.nd rfl (Or.inl rfl))) (fun _ _ _ _=>lC) (fun _ _ _ _=>⟨_,pc0 O.wz xW hr (a_ (pv 2) (a_ (pv 7) (a_ (iA h_ (pv 1) f_ (fun _ _=>rfl)) d_))),by(try simp only [ir]);rfl⟩)) d_)))) (ij _))))))))))),?_⟩
   have b7:=mod_lt (cellAt ns 4) 7 (by decide)
   obtain⟨n,MT⟩:∃n:Nat,cellAt ns 4%7=(n:Int):=⟨_,(Int.toNat_of_nonneg b7.1).symm⟩
   refine⟨_,rfl,_,rfl,a,ns,4,rfl,ha,by decide,_,_,rfl,rfl,(by show(0:Int)<7;decide),a,ns,6,n,true,?_,ha,by omega,by decide,by decide,by omega,fun bl d ss fs D W H1 B=>?_⟩
   · show[V.ref a,V.int 6,V.int (cellAt ns 4%7),V.bl true]=_
     rw[MT]
   have s1:=B.same
   have n7:n<7:=by omega
   have Zl:Sz 35 D:=by
     have h1:=B.sz.many
     have h2:=B.sz.iD
     have h3:=B.sz.j4
     have h4:n*n≤6*6:=Nat.mul_le_mul (by omega) (by omega)
     exact⟨by omega,by omega,by omega⟩
   have sm:=Zl.small (by decide)
   have X1:=B.U7
   obtain⟨π,y⟩:=id X1
   have Zm:∀x∈D.names,jw x:=fun x hx=>by
     obtain⟨j,_,e⟩:=B.names x hx
     rw[e];exact(pM _ _).ua
   have MM:D.names.length≤6:=by
     have:=B.sz.many
     unfold Dk.names
     rw[RF];omega
   refine⟨_,rfl,bl,_,_,_,rfl,rfl,hV.of B.at_,iB (j:=0) rfl rfl,?_⟩
   refine⟨_,rfl,d,π.dx,_,rfl,y.hd,(ux _ _ _).2.2.2.2.2.2.1,d,D,W,rfl,X1,fun p hp=>?_⟩
   have s2:=(gb.refl H1).new (o:=.lst (gh D.names)) hp
   refine⟨_,rfl,bl,_,_,_,rfl,rfl,hV.of (s2 _ _ B.at_),iB (j:=2) rfl rfl,?_⟩
   refine⟨p,fs,_,_,rfl,rfl,b_,s2 _ _ B.fl,by simp[nc];omega,fun u hu=>?_⟩
   have s3:=s2.new (o:=.lst (gh D.names++gh (nc ns))) hu
   refine⟨L2.jK,fun v hv=>?_⟩
   have s4:=s3.new (o:=.lst [V.str (Str.ofString ""),V.str (Str.ofString "-"),V.str (Str.ofString "nostore")]) hv
   refine⟨u,v,_,_,rfl,rfl,ig hv b_,b_,by simp[nc];omega,fun Mf WS=>?_⟩
   have s5:=s4.new (o:=.lst (gh D.names++gh (nc ns)++[V.str (Str.ofString ""),V.str (Str.ofString "-"),V.str (Str.ofString "nostore")])) WS
   have e5:gh D.names++gh (nc ns)++[V.str (Str.ofString ""),V.str (Str.ofString "-"),V.str (Str.ofString "nostore")]=gh (D.names++nc ns++[Str.ofString "",Str.ofString "-",NS]):=by
     rw[mw];simp[gh,NS]
   rw[e5] at s5 ⊢
   have h5:(upd (upd (upd (upd H1 p (.lst (gh D.names))) u (.lst (gh D.names++gh (nc ns)))) v (.lst [V.str (Str.ofString ""),V.str (Str.ofString "-"),V.str (Str.ofString "nostore")])) Mf (.lst (gh (D.names++nc ns++[Str.ofString "",Str.ofString "-",NS])))) Mf=some (.lst (gh (D.names++nc ns++[Str.ofString "",Str.ofString "-",NS]))):=b_
   generalize upd (upd (upd (upd H1 p (.lst (gh D.names))) u (.lst (gh D.names++gh (nc ns)))) v (.lst [V.str (Str.ofString ""),V.str (Str.ofString "-"),V.str (Str.ofString "nostore")])) Mf (.lst (gh (D.names++nc ns++[Str.ofString "",Str.ofString "-",NS])))=H5 at s5 h5
   have CK:∀x∈D.names++nc ns++[Str.ofString "",Str.ofString "-",NS],jw x:=fun x hx=>by
     rcases aaa.mp hx with hx|hx
     · rcases aaa.mp hx with hx|hx
       · exact Zm x hx
       · exact(zY x hx).ua
     · simp only [XU,abl,or_false] at hx
       rcases hx with rfl|rfl|rfl
       · exact CJ
       · exact Ov
       · exact GQ
   have L4:0<(D.names++nc ns++[Str.ofString "",Str.ofString "-",NS]).length:=by simp;omega
   generalize D.names++nc ns++[Str.ofString "",Str.ofString "-",NS]=GY at h5 CK L4
   have el:((gh GY).length:Int)=(GY.length:Int):=by simp
   have b8:=mod_lt (cellAt ns 5) (GY.length:Int) (by omega)
   obtain⟨WT,WU,RQ⟩:=pick (xs:=GY) b8.1 b8.2
   refine⟨_,rfl,_,rfl,a,ns,5,rfl,qm ha (s1.trans s5),by decide,_,rfl,Mf,_,rfl,.inl (hV.of h5),_,_,rfl,rfl,(by rw[el];omega),Mf,_,_,_,rfl,rfl,hV.of h5,(by rw[el];exact WU),?_⟩
   refine⟨fun σ H6=>∃st:Str,σ=[some (.ref a),some (.ref bl),some (.ref d),some (.ref Mf),some (.str st),none,none,none]∧gb H5 H6∧st∉D.stores∧jw st,?_,?_⟩
   · refine⟨_,rfl,_,rfl,d,π.dx,_,rfl,s5 _ _ y.hd,(ux _ _ _).2.2.2.2.2.1,d,D,W,rfl,X1.same s5,fun p6 hp6=>?_⟩
     have s6:=(gb.refl H5).new (o:=.lst (gh D.stores)) hp6
     refine⟨p6,_,rfl,.inl (hV.of b_),rfl,by simp[gh,lV],_,rfl,?_⟩
     show if(Qj (.str WT) (gh D.stores))=true then _ else _
     rw[Ka]
     refine jT (fun h=>?_) (fun h=>?_)
     · exact⟨NS,rfl,s6,by rw[B.stores];exact Ou ns,GQ⟩
     · exact⟨WT,rfl,s6,fun z=>h (UW z),CK WT RQ⟩
   rintro σ H6 ⟨st,rfl,MR,Yu,WV⟩
   have s6:=s5.trans MR
   refine⟨_,rfl,d,π.dx,_,rfl,s6 _ _ y.hd,(ux _ _ _).2.2.2.2.2.1,d,D,W,rfl,X1.same s6,fun p1 Ig=>?_⟩
   have t1:=s6.new (o:=.lst (gh D.stores)) Ig
   have u1:(upd H6 p1 (.lst (gh D.stores))) p1=some (.lst (gh D.stores)):=b_
   have w1:gb H6 (upd H6 p1 (.lst (gh D.stores))):=(gb.refl _).new Ig
   generalize upd H6 p1 (.lst (gh D.stores))=G1 at t1 u1 w1
   refine⟨_,rfl,d,π.dx,_,rfl,t1 _ _ y.hd,(ux _ _ _).2.2.2.2.2.2.1,d,D,W,rfl,X1.same t1,fun p2 yi=>?_⟩
   have t2:=t1.new (o:=.lst (gh D.names)) yi
   have u2:(upd G1 p2 (.lst (gh D.names))) p2=some (.lst (gh D.names)):=b_
   have w2:gb G1 (upd G1 p2 (.lst (gh D.names))):=(gb.refl _).new yi
   generalize upd G1 p2 (.lst (gh D.names))=G2 at t2 u2 w2
   refine⟨_,rfl,bl,_,_,_,rfl,rfl,hV.of (t2 _ _ B.at_),iB (j:=1) rfl rfl,ss,rfl,⟨_,hV.of (t2 _ _ B.st)⟩,j2 (K:=K) (a:=ss) (xs:=gh (qx ns)) (by simp[qx,sz]) (fun i ys σ G3=>∃(v7:Option V),σ=[some (.ref a),some (.ref bl),some (.ref d),some (.ref Mf),some (.str st),none,none,v7]∧gb G2 G3∧Paired (fun v s=>Rep G3 4 v (GO D s (nc ns))) ys ((qx ns).take i))
     ⟨none,rfl,gb.refl _,.nil⟩ (fun i ys σ G3 _ ⟨_,_,e,e2⟩=>⟨hV.of (e _ _ (t2 _ _ B.st)),by rw[Paired.length e2,aau];omega⟩) ?_ ?_⟩
   · rintro i v ys σ G3 hx ⟨v7,rfl,w3,e2⟩
     obtain⟨so,O9,rfl⟩:=kT hx
     have t3:=t2.trans w3
     have Kv:=VI O9
     refine⟨_,rfl,_,rfl,_,rfl,bl,_,_,_,rfl,rfl,hV.of (t3 _ _ B.at_),iB (j:=2) rfl rfl,d,fs,D,W,so,nc ns,rfl,X1.same t3,B.inv,sm,by rw[B.stores];exact Kv,(su so Kv).ua,t3 _ _ B.fl,by simp[nc],fun r G4 w4 sx rep=>?_⟩
     refine⟨_,rfl,w3.trans w4,?_⟩
     rw[take_snoc O9]
     exact il (Paired.kx e2 fun _ _ z=>z.same w4) rep
   rintro ys σ G3 ⟨v7,rfl,w3,e2⟩ p3 Zn
   rw[RF,aaj] at e2
   have t3:=(t2.trans w3).new (o:=.lst ys) Zn
   have u3:(upd G3 p3 (.lst ys)) p3=some (.lst ys):=b_
   have w4:gb G3 (upd G3 p3 (.lst ys)):=(gb.refl _).new Zn
   generalize upd G3 p3 (.lst ys)=G4 at t3 u3 w4
   refine⟨L2.jK,fun r hr=>?_⟩
   have w5:gb G4 (upd G4 r (.lst [.ref p1,.ref p2,.ref p3])):=(gb.refl _).new hr
   have t4:=t3.trans w5
   have rp:Rep (upd G4 r (.lst [.ref p1,.ref p2,.ref p3])) 6 (.ref r) (Q5 D (qx ns) (nc ns)):=
     Rep.three b_ (Rep.strs (w5 _ _ (w4 _ _ (w3 _ _ (w2 _ _ u1))))) (Rep.strs (w5 _ _ (w4 _ _ (w3 _ _ u2)))) ((Rep.sS u3 e2 fun _ _ z=>z.same w4).same w5)
   have WW:gb H6 (upd G4 r (.lst [.ref p1,.ref p2,.ref p3])):=(((w1.trans w2).trans w3).trans w4).trans w5
   generalize upd G4 r (.lst [.ref p1,.ref p2,.ref p3])=G5 at t4 rp WW
   refine⟨_,rfl,by decide,by decide,?_⟩
   refine lY (n:=11) (fun i σ G6=>∃v6:Option V,σ=[some (.ref a),some (.ref bl),some (.ref d),some (.ref Mf),some (.str st),some (.ref r),v6,none]∧gb G5 G6) ⟨none,rfl,gb.refl _⟩ ?_ ?_
   · rintro i σ G6 hi ⟨v6,rfl,w6⟩
     have t6:=t4.trans w6
     have Kh:nameOf (BE ns 0) 0∈qx ns:=by unfold qx;simp
     have Mc:nameOf (BE ns 1) 0∈nc ns:=by unfold nc;simp
     refine⟨_,rfl,_,rfl,_,rfl,_,rfl,bl,_,_,_,rfl,rfl,hV.of (t6 _ _ B.at_),iB (j:=1) rfl rfl,ss,_,_,_,rfl,rfl,hV.of (t6 _ _ B.st),iB (j:=0) (v:=V.str (nameOf (BE ns 0) 0)) rfl rfl,_,rfl,bl,_,_,_,rfl,rfl,hV.of (t6 _ _ B.at_),iB (j:=2) rfl rfl,fs,_,_,_,rfl,rfl,hV.of (t6 _ _ B.fl),iB (j:=0) (v:=V.str (nameOf (BE ns 1) 0)) rfl rfl,?_⟩
     refine⟨d,D,W,_,st,_,_,rfl,⟨X1.same t6,B.inv,Zl,Yu,by rw[B.stores];exact Kh,WV,(su _ Kh).ua,zY _ Mc,Zm⟩,fun G7 w7=>⟨_,rfl,?_⟩⟩
     exact k7 ⟨_,rfl,w6.trans w7⟩
   rintro σ G6 ⟨v6,rfl,w6⟩
   have t6:=t4.trans w6
   refine⟨_,rfl,?_⟩
   refine⟨_,rfl,d,π.dx,_,rfl,t6 _ _ y.hd,(ux _ _ _).2.2.2.2.2.1,d,D,W,rfl,X1.same t6,fun MU SK=>?_⟩
   have T8:=t6.new (o:=.lst (gh D.stores)) SK
   have Zo:(upd G6 MU (.lst (gh D.stores))) MU=some (.lst (gh D.stores)):=b_
   have Zp:gb G6 (upd G6 MU (.lst (gh D.stores))):=(gb.refl _).new SK
   generalize upd G6 MU (.lst (gh D.stores))=T9 at T8 Zo Zp
   refine⟨_,rfl,d,π.dx,_,rfl,T8 _ _ y.hd,(ux _ _ _).2.2.2.2.2.2.1,d,D,W,rfl,X1.same T8,fun MV SM=>?_⟩
   have PY:=T8.new (o:=.lst (gh D.names)) SM
   have Zq:(upd T9 MV (.lst (gh D.names))) MV=some (.lst (gh D.names)):=b_
   have WX:gb T9 (upd T9 MV (.lst (gh D.names))):=(gb.refl _).new SM
   generalize upd T9 MV (.lst (gh D.names))=G2b at PY Zq WX
   refine⟨_,rfl,bl,_,_,_,rfl,rfl,hV.of (PY _ _ B.at_),iB (j:=1) rfl rfl,ss,rfl,⟨_,hV.of (PY _ _ B.st)⟩,j2 (K:=K) (a:=ss) (xs:=gh (qx ns)) (by simp[qx,sz]) (fun i ys σ G3=>∃(v7:Option V),σ=[some (.ref a),some (.ref bl),some (.ref d),some (.ref Mf),some (.str st),some (.ref r),v6,v7]∧gb G2b G3∧Paired (fun v s=>Rep G3 4 v (GO D s (nc ns))) ys ((qx ns).take i))
     ⟨none,rfl,gb.refl _,.nil⟩ (fun i ys σ G3 _ ⟨_,_,e,e2⟩=>⟨hV.of (e _ _ (PY _ _ B.st)),by rw[Paired.length e2,aau];omega⟩) ?_ ?_⟩
   · rintro i v ys σ G3 hx ⟨v7,rfl,w3,e2⟩
     obtain⟨so,O9,rfl⟩:=kT hx
     have t3:=PY.trans w3
     have Kv:=VI O9
     refine⟨_,rfl,_,rfl,_,rfl,bl,_,_,_,rfl,rfl,hV.of (t3 _ _ B.at_),iB (j:=2) rfl rfl,d,fs,D,W,so,nc ns,rfl,X1.same t3,B.inv,sm,by rw[B.stores];exact Kv,(su so Kv).ua,t3 _ _ B.fl,by simp[nc],fun r G4 w4 sx rep=>?_⟩
     refine⟨_,rfl,w3.trans w4,?_⟩
     rw[take_snoc O9]
     exact il (Paired.kx e2 fun _ _ z=>z.same w4) rep
   rintro SN σ T_ ⟨v7,rfl,Ua,Zr⟩ MW SO
   rw[RF,aaj] at Zr
   have Zs:=(PY.trans Ua).new (o:=.lst SN) SO
   have Zt:(upd T_ MW (.lst SN)) MW=some (.lst SN):=b_
   have SQ:gb T_ (upd T_ MW (.lst SN)):=(gb.refl _).new SO
   generalize upd T_ MW (.lst SN)=SR at Zs Zt SQ
   refine⟨L2.jK,fun rb V3=>?_⟩
   have SS:gb SR (upd SR rb (.lst [.ref MU,.ref MV,.ref MW])):=(gb.refl _).new V3
   have t4b:=Zs.trans SS
   have Zu:Rep (upd SR rb (.lst [.ref MU,.ref MV,.ref MW])) 6 (.ref rb) (Q5 D (qx ns) (nc ns)):=
     Rep.three b_ (Rep.strs (SS _ _ (SQ _ _ (Ua _ _ (WX _ _ Zo))))) (Rep.strs (SS _ _ (SQ _ _ (Ua _ _ Zq)))) ((Rep.sS Zt Zr fun _ _ z=>z.same SQ).same SS)
   have MX:gb G6 (upd SR rb (.lst [.ref MU,.ref MV,.ref MW])):=(((Zp.trans WX).trans Ua).trans SQ).trans SS
   generalize upd SR rb (.lst [.ref MU,.ref MV,.ref MW])=G5b at t4b Zu MX
   refine⟨_,⟨r,rb,rfl,rfl⟩,Rep.eq ((rp.same (w6.trans MX)).mono (by decide)) (Zu.mono (by decide)),q _⟩
end
end PK
namespace TW
open PySem PySem.W L2 PK
abbrev S:=Str.ofString
abbrev ob:=Obj.mk
abbrev v(x:String)(t:Nat):Value:=.str (S x) t
abbrev r:=Value.ref
abbrev vi:=Value.int
abbrev i(n:Int):=Value.int n 0
abbrev vn:=Value.none
abbrev w:=Value.type
abbrev b:=Value.builtin
abbrev vl:=Value.bool
abbrev cl:=ClassData.mk
abbrev k:=@some Value
abbrev d(P:Params)(x:String)(t:Nat)(y:Value):DictEntry:=.mk (PyData.keyHash P (S x)) (v x t) y
noncomputable abbrev x:=top
noncomputable abbrev y(i j:Nat):=inClass (top i) j
abbrev n:=BT.node
abbrev z:=BT.nil
abbrev f(o:Obj):BT:=n o z z
abbrev of(c:String)(l:List Value):Obj:=ob (w c) none (.fields l.toArray) #[]
abbrev tp(l:List Value):Obj:=ob (w "tuple") none (.seq l.toArray 0) #[]
abbrev fl(l:List Value):Obj:=ob vn none (.fields l.toArray) #[]
abbrev l3(l:List (Int×Int×Addr)):Obj:=fl (l.flatMap fun(a,b,c)=>[i a,i b,r c])
abbrev fd(n q:Str)(st:Stmt)(g:Addr)(c:List (Str×Addr))(d kd doc pm:Value)(an:Option Addr)(co ct:Value)(b:Addr):FuncData:=⟨n,q,pQ st,.stmts (mf st),fU st,g,c,d,kd,doc,pm,an,co,ct,b⟩
abbrev fn(a b:String)(st:Stmt)(m:String)(t:Nat)(c:Addr):Obj:=ob (w "function") none (.func (fd (S a) (S b) st 3 [] vn vn vn (v m t) none (r c) vn 0)) #[]
abbrev fv(a b:String)(st:Stmt):Obj:=ob vn none (.func (fd (S a) (S b) st 0 [] vn vn vn vn none vn vn 0)) #[]
abbrev dt(l:List DictEntry)(c:Nat):Obj:=ob (w "dict") none (.dict l.toArray c) #[]
abbrev fr(l:List (Option Value)):Obj:=ob (w "frame") none .plain l.toArray
abbrev ty(c:ClassData)(l:List (Option Value)):Obj:=ob (w "type") none (.cls c) l.toArray
abbrev o0:Addr→Value|0=>vn|a+1=>r (a+1)
abbrev co(a b:String)(t:Nat)(l p q:Int)(c:Addr)(g:Int)(ys:List Addr)(u:Nat):Obj:=of "code" ([v a t,v b (t+1),v "/claim/cut.py" (t+2),i l,i p,i 0,i 0,i q,r c,vl true,i g]++ys.map o0++[i u,i l,v "/claim/cut.py" (u+1)])
noncomputable def g8(P:Params):List DictEntry:=[(d P "__doc__" 166 vn),(d P "__package__" 167 vn),(d P "__loader__" 168 (b "__main__.__loader__#opaque")),(d P "__spec__" 169 vn),(d P "__annotations__" 170 (r 6)),(d P "__builtins__" 171 (r 4)),(d P "__file__" 173 (v "/claim/cut.py" 172)),(d P "__cached__" 174 vn),(d P "_wall" 193 (r 21)),(d P "counts_with" 206 (r 28)),(d P "most_pairs" 212 (r 33)),(d P "place_from" 222 (r 40)),(d P "kept" 235 (r 47)),(d P "PatchError" 255 (r 57))]
noncomputable def g9(P:Params):List DictEntry:=g8 P++[(d P "BadName" 271 (r 70))]
noncomputable def ha(P:Params):List DictEntry:=g9 P++[(d P "NameTaken" 287 (r 82))]
noncomputable def hb(P:Params):List DictEntry:=ha P++[(d P "NoStore" 303 (r 94))]
noncomputable def hc(P:Params):List DictEntry:=hb P++[(d P "NoPatch" 319 (r 106))]
noncomputable def hd(P:Params):List DictEntry:=hc P++[(d P "NoLine" 335 (r 118))]
noncomputable def he(P:Params):List DictEntry:=hd P++[(d P "Unsettled" 351 (r 130))]
noncomputable def hf(P:Params):List DictEntry:=he P++[(d P "Same" 367 (r 142))]
noncomputable def hg(P:Params):List DictEntry:=hf P++[(d P "Leant" 383 (r 154))]
noncomputable def hh(P:Params):List DictEntry:=hg P++[(d P "Line" 420 (r 173))]
noncomputable def hi(P:Params):List DictEntry:=hh P++[(d P "Patch" 457 (r 194)),(d P "lines_named_by" 463 (r 203)),(d P "leans_straight_on" 469 (r 208)),(d P "live_patches" 479 (r 215)),(d P "lines_put" 489 (r 222)),(d P "standing_lines" 495 (r 227)),(d P "files_with_lines" 501 (r 232))]
noncomputable def hj(P:Params):List DictEntry:=hi P++[(d P "straight_ahead" 510 (r 239)),(d P "joined" 520 (r 246)),(d P "all_ahead" 526 (r 251)),(d P "first_free" 534 (r 258)),(d P "row_of" 540 (r 263))]
noncomputable def hk(P:Params):List DictEntry:=hj P++[(d P "Sight" 611 (r 308)),(d P "NAME_SIGNS" 615 (v "abcdefghijklmnopqrstuvwxyz0123456789" 614)),(d P "LONGEST_NAME" 617 (vi 12 616))]
noncomputable def hl(P:Params):List DictEntry:=hk P++[(d P "check_name" 625 (r 319)),(d P "check_places" 635 (r 326)),(d P "kept_behind" 645 (r 333)),(d P "new_lines" 659 (r 340)),(d P "changing_patch" 665 (r 345))]
noncomputable def hm(P:Params):List DictEntry:=hl P++[(d P "Desk" 868 (r 502))]
noncomputable def hn(P:Params):List DictEntry:=hm P++[(d P "_law_cell_at" 878 (r 513)),(d P "_law_draw" 888 (r 520)),(d P "_law_name" 902 (r 527)),(d P "_law_text" 908 (r 532)),(d P "_law_edit" 922 (r 539)),(d P "_law_deed" 928 (r 544)),(d P "_law_desk" 934 (r 549)),(d P "_law_seen" 940 (r 554)),(d P "_law_which" 948 (r 561)),(d P "_law_due" 954 (r 566)),(d P "_law_ask" 965 (r 573)),(d P "_law_refused" 978 (r 580)),(d P "law" 984 (r 585))]
noncomputable def aa:Obj:=tp []
noncomputable def ab:Obj:=fl []
noncomputable def ac:Obj:=of "builtin_function_or_method" [(b "type.__prepare__"),(w "type")]
noncomputable def ad:Obj:=tp [(r 57)]
noncomputable def ae:Obj:=of "code" [(v "<module>" 182),(v "<module>" 183),(v "/claim/cut.py" 184),(i 1),(i 0),(i 0),(i 0),(i 0),(r 11),(vl false),(i 181),(r 12),vn,vn,vn,vn,(i 185),(i 1),(v "/claim/cut.py" 186)]
noncomputable def af:Obj:=fr [(k (r 13)),(k (r 3)),(k (r 3)),none,(k (v "__main__" 164)),none,(k (r 0))]
noncomputable def ag:Obj:=fn "kept" "kept" (x 5) "patchkin.differ" 194 46
noncomputable def ah:Obj:=co "place_from" "place_from" 213 18 3 3 34 181 [35,0,36,37,38] 220
noncomputable def ai:Obj:=co "counts_with" "counts_with" 196 5 3 3 22 181 [23,0,24,25,26] 204
noncomputable def aj:Obj:=tp [(v "old" 226),(v "new" 227),(v "table" 228),(v "pairs" 229),(v "start" 230),(v "first" 231),(v "second" 232)]
noncomputable def ak:Obj:=tp [(v "k" 190)]
noncomputable def al:Obj:=fn "most_pairs" "most_pairs" (x 3) "patchkin.differ" 194 32
noncomputable def am:Obj:=fn "_wall" "_wall" (x 0) "__main__" 164 20
noncomputable def an:Obj:=co "most_pairs" "most_pairs" 207 13 2 3 29 181 [30,0,0,0,31] 210
noncomputable def ao:Obj:=tp [(w "ValueError")]
noncomputable def ap:Obj:=tp [(v "text" 199),(v "new" 200),(v "below" 201),(v "counts" 202),(v "second" 203)]
noncomputable def aq:Obj:=fn "place_from" "place_from" (x 4) "patchkin.differ" 194 39
noncomputable def ar(P:Params):Obj:=dt [(d P "__module__" 245 (v "patchkin.errors" 236)),(d P "__firstlineno__" 249 (vi 34 248)),(d P "__static_attributes__" 250 (r 55)),(d P "__weakref__" 252 (r 58)),(d P "__doc__" 253 vn)] 3
noncomputable def au:Obj:=co "_wall" "_wall" 187 1 1 3 15 181 [16,0,17,18,19] 191
noncomputable def av:Obj:=tp [(v "texts" 216),(v "text" 217),(v "start" 218),(v "place" 219)]
noncomputable def aw:Obj:=fn "counts_with" "counts_with" (x 2) "patchkin.differ" 194 27
noncomputable def ax:Obj:=of "getset_descriptor" [(v "__weakref__" 251),(r 57),(b "ExceptionGroup.__weakref__"),vn]
noncomputable def ay:Obj:=co "kept" "kept" 223 23 2 3 41 181 [42,0,43,44,45] 233
noncomputable def az:Obj:=fv "most_pairs" "most_pairs" (x 3)
noncomputable def aA:Obj:=fv "_wall" "_wall" (x 0)
noncomputable def aB:Obj:=of "super" [(r 57),(r 57),(r 57)]
noncomputable def aC(P:Params):Obj:=dt [(d P "__module__" 263 (v "patchkin.errors" 236)),(d P "__firstlineno__" 267 (vi 36 266)),(d P "__static_attributes__" 268 (r 68)),(d P "__doc__" 269 vn)] 2
noncomputable def aD:Obj:=of "code" [(v "PatchError" 240),(v "PatchError" 241),(v "/claim/cut.py" 242),(i 34),(i 0),(i 0),(i 0),(i 0),(r 51),(vl false),(i 181),(r 52),vn,vn,vn,vn,(i 243),(i 34),(v "/claim/cut.py" 244)]
noncomputable def aE:Obj:=fv "kept" "kept" (x 5)
noncomputable def aF:Obj:=of "builtin_function_or_method" [(b "object.__init_subclass__"),(r 57)]
noncomputable def aG(P:Params):Obj:=dt [(d P "__module__" 245 (v "patchkin.errors" 236)),(d P "__qualname__" 247 (v "PatchError" 246)),(d P "__firstlineno__" 249 (vi 34 248)),(d P "__static_attributes__" 250 (r 55))] 4
noncomputable def aH:Obj:=fv "counts_with" "counts_with" (x 2)
noncomputable def aI:Obj:=fv "place_from" "place_from" (x 4)
noncomputable def aJ:Obj:=ty (cl (S "BadName") [(r 57)] [(r 70),(r 57),(w "ValueError"),(w "Exception"),(w "BaseException"),(w "object")] 69 (S "BadName") true [] [] false none false) [(k (r 61)),none,(k (v "BadName" 256)),(k (v "BadName" 264)),(k (b "ValueError.__new__")),(k (vl true))]
noncomputable def aK:Obj:=fr [(k (r 53)),(k (r 3)),(k (r 50)),none,(k (v "patchkin.errors" 236)),none,(k (r 0))]
noncomputable def aL(P:Params):Obj:=dt [(d P "__module__" 263 (v "patchkin.errors" 236)),(d P "__qualname__" 265 (v "BadName" 264)),(d P "__firstlineno__" 267 (vi 36 266)),(d P "__static_attributes__" 268 (r 68))] 4
noncomputable def aM:Obj:=of "super" [(r 70),(r 70),(r 70)]
noncomputable def aN:Obj:=fr [(k (r 66)),(k (r 3)),(k (r 63)),none,(k (v "patchkin.errors" 236)),none,(k (r 0))]
noncomputable def aO(P:Params):Obj:=dt [(d P "__module__" 279 (v "patchkin.errors" 236)),(d P "__firstlineno__" 283 (vi 38 282)),(d P "__static_attributes__" 284 (r 80)),(d P "__doc__" 285 vn)] 2
noncomputable def aP:Obj:=of "builtin_function_or_method" [(b "object.__init_subclass__"),(r 70)]
noncomputable def aQ:Obj:=of "code" [(v "BadName" 258),(v "BadName" 259),(v "/claim/cut.py" 260),(i 36),(i 0),(i 0),(i 0),(i 0),(r 64),(vl false),(i 181),(r 65),vn,vn,vn,vn,(i 261),(i 36),(v "/claim/cut.py" 262)]
noncomputable def aR:Obj:=ty (cl (S "NameTaken") [(r 57)] [(r 82),(r 57),(w "ValueError"),(w "Exception"),(w "BaseException"),(w "object")] 81 (S "NameTaken") true [] [] false none false) [(k (r 73)),none,(k (v "NameTaken" 272)),(k (v "NameTaken" 280)),(k (b "ValueError.__new__")),(k (vl true))]
noncomputable def aS:Obj:=fr [(k (r 78)),(k (r 3)),(k (r 75)),none,(k (v "patchkin.errors" 236)),none,(k (r 0))]
noncomputable def aT:Obj:=of "super" [(r 82),(r 82),(r 82)]
noncomputable def aU(P:Params):Obj:=dt [(d P "__module__" 279 (v "patchkin.errors" 236)),(d P "__qualname__" 281 (v "NameTaken" 280)),(d P "__firstlineno__" 283 (vi 38 282)),(d P "__static_attributes__" 284 (r 80))] 4
noncomputable def aV(P:Params):Obj:=dt [(d P "__module__" 295 (v "patchkin.errors" 236)),(d P "__firstlineno__" 299 (vi 40 298)),(d P "__static_attributes__" 300 (r 92)),(d P "__doc__" 301 vn)] 2
noncomputable def aW:Obj:=of "builtin_function_or_method" [(b "object.__init_subclass__"),(r 82)]
noncomputable def aX:Obj:=of "code" [(v "NameTaken" 274),(v "NameTaken" 275),(v "/claim/cut.py" 276),(i 38),(i 0),(i 0),(i 0),(i 0),(r 76),(vl false),(i 181),(r 77),vn,vn,vn,vn,(i 277),(i 38),(v "/claim/cut.py" 278)]
noncomputable def aY:Obj:=ty (cl (S "NoStore") [(r 57)] [(r 94),(r 57),(w "ValueError"),(w "Exception"),(w "BaseException"),(w "object")] 93 (S "NoStore") true [] [] false none false) [(k (r 85)),none,(k (v "NoStore" 288)),(k (v "NoStore" 296)),(k (b "ValueError.__new__")),(k (vl true))]
noncomputable def aZ:Obj:=of "super" [(r 94),(r 94),(r 94)]
noncomputable def a0(P:Params):Obj:=dt [(d P "__module__" 295 (v "patchkin.errors" 236)),(d P "__qualname__" 297 (v "NoStore" 296)),(d P "__firstlineno__" 299 (vi 40 298)),(d P "__static_attributes__" 300 (r 92))] 4
noncomputable def a1:Obj:=fr [(k (r 90)),(k (r 3)),(k (r 87)),none,(k (v "patchkin.errors" 236)),none,(k (r 0))]
noncomputable def a2(P:Params):Obj:=dt [(d P "__module__" 311 (v "patchkin.errors" 236)),(d P "__firstlineno__" 315 (vi 42 314)),(d P "__static_attributes__" 316 (r 104)),(d P "__doc__" 317 vn)] 2
noncomputable def a3:Obj:=of "builtin_function_or_method" [(b "object.__init_subclass__"),(r 94)]
noncomputable def a4:Obj:=ty (cl (S "NoPatch") [(r 57)] [(r 106),(r 57),(w "ValueError"),(w "Exception"),(w "BaseException"),(w "object")] 105 (S "NoPatch") true [] [] false none false) [(k (r 97)),none,(k (v "NoPatch" 304)),(k (v "NoPatch" 312)),(k (b "ValueError.__new__")),(k (vl true))]
noncomputable def a5:Obj:=of "code" [(v "NoStore" 290),(v "NoStore" 291),(v "/claim/cut.py" 292),(i 40),(i 0),(i 0),(i 0),(i 0),(r 88),(vl false),(i 181),(r 89),vn,vn,vn,vn,(i 293),(i 40),(v "/claim/cut.py" 294)]
noncomputable def a6:Obj:=fr [(k (r 102)),(k (r 3)),(k (r 99)),none,(k (v "patchkin.errors" 236)),none,(k (r 0))]
noncomputable def a7(P:Params):Obj:=dt [(d P "__module__" 311 (v "patchkin.errors" 236)),(d P "__qualname__" 313 (v "NoPatch" 312)),(d P "__firstlineno__" 315 (vi 42 314)),(d P "__static_attributes__" 316 (r 104))] 4
noncomputable def a8:Obj:=of "super" [(r 106),(r 106),(r 106)]
noncomputable def a9(P:Params):Obj:=dt [(d P "__module__" 327 (v "patchkin.errors" 236)),(d P "__firstlineno__" 331 (vi 44 330)),(d P "__static_attributes__" 332 (r 116)),(d P "__doc__" 333 vn)] 2
noncomputable def ba:Obj:=of "builtin_function_or_method" [(b "object.__init_subclass__"),(r 106)]
noncomputable def bb:Obj:=of "code" [(v "NoPatch" 306),(v "NoPatch" 307),(v "/claim/cut.py" 308),(i 42),(i 0),(i 0),(i 0),(i 0),(r 100),(vl false),(i 181),(r 101),vn,vn,vn,vn,(i 309),(i 42),(v "/claim/cut.py" 310)]
noncomputable def bc:Obj:=ty (cl (S "NoLine") [(r 57)] [(r 118),(r 57),(w "ValueError"),(w "Exception"),(w "BaseException"),(w "object")] 117 (S "NoLine") true [] [] false none false) [(k (r 109)),none,(k (v "NoLine" 320)),(k (v "NoLine" 328)),(k (b "ValueError.__new__")),(k (vl true))]
noncomputable def bd(P:Params):Obj:=dt [(d P "__module__" 327 (v "patchkin.errors" 236)),(d P "__qualname__" 329 (v "NoLine" 328)),(d P "__firstlineno__" 331 (vi 44 330)),(d P "__static_attributes__" 332 (r 116))] 4
noncomputable def be:Obj:=of "super" [(r 118),(r 118),(r 118)]
noncomputable def bf:Obj:=fr [(k (r 114)),(k (r 3)),(k (r 111)),none,(k (v "patchkin.errors" 236)),none,(k (r 0))]
noncomputable def bg(P:Params):Obj:=dt [(d P "__module__" 343 (v "patchkin.errors" 236)),(d P "__firstlineno__" 347 (vi 46 346)),(d P "__static_attributes__" 348 (r 128)),(d P "__doc__" 349 vn)] 2
noncomputable def bh:Obj:=of "builtin_function_or_method" [(b "object.__init_subclass__"),(r 118)]
noncomputable def bi:Obj:=ty (cl (S "Unsettled") [(r 57)] [(r 130),(r 57),(w "ValueError"),(w "Exception"),(w "BaseException"),(w "object")] 129 (S "Unsettled") true [] [] false none false) [(k (r 121)),none,(k (v "Unsettled" 336)),(k (v "Unsettled" 344)),(k (b "ValueError.__new__")),(k (vl true))]
noncomputable def bj:Obj:=of "code" [(v "NoLine" 322),(v "NoLine" 323),(v "/claim/cut.py" 324),(i 44),(i 0),(i 0),(i 0),(i 0),(r 112),(vl false),(i 181),(r 113),vn,vn,vn,vn,(i 325),(i 44),(v "/claim/cut.py" 326)]
noncomputable def bk:Obj:=fr [(k (r 126)),(k (r 3)),(k (r 123)),none,(k (v "patchkin.errors" 236)),none,(k (r 0))]
noncomputable def bl:Obj:=of "super" [(r 130),(r 130),(r 130)]
noncomputable def bm(P:Params):Obj:=dt [(d P "__module__" 343 (v "patchkin.errors" 236)),(d P "__qualname__" 345 (v "Unsettled" 344)),(d P "__firstlineno__" 347 (vi 46 346)),(d P "__static_attributes__" 348 (r 128))] 4
noncomputable def bn(P:Params):Obj:=dt [(d P "__module__" 359 (v "patchkin.errors" 236)),(d P "__firstlineno__" 363 (vi 48 362)),(d P "__static_attributes__" 364 (r 140)),(d P "__doc__" 365 vn)] 2
noncomputable def bo:Obj:=of "builtin_function_or_method" [(b "object.__init_subclass__"),(r 130)]
noncomputable def bp:Obj:=ty (cl (S "Same") [(r 57)] [(r 142),(r 57),(w "ValueError"),(w "Exception"),(w "BaseException"),(w "object")] 141 (S "Same") true [] [] false none false) [(k (r 133)),none,(k (v "Same" 352)),(k (v "Same" 360)),(k (b "ValueError.__new__")),(k (vl true))]
noncomputable def bq:Obj:=of "code" [(v "Unsettled" 338),(v "Unsettled" 339),(v "/claim/cut.py" 340),(i 46),(i 0),(i 0),(i 0),(i 0),(r 124),(vl false),(i 181),(r 125),vn,vn,vn,vn,(i 341),(i 46),(v "/claim/cut.py" 342)]
noncomputable def br:Obj:=of "super" [(r 142),(r 142),(r 142)]
noncomputable def bs(P:Params):Obj:=dt [(d P "__module__" 359 (v "patchkin.errors" 236)),(d P "__qualname__" 361 (v "Same" 360)),(d P "__firstlineno__" 363 (vi 48 362)),(d P "__static_attributes__" 364 (r 140))] 4
noncomputable def bt:Obj:=fr [(k (r 138)),(k (r 3)),(k (r 135)),none,(k (v "patchkin.errors" 236)),none,(k (r 0))]
noncomputable def bu:Obj:=ty (cl (S "PatchError") [(w "ValueError")] [(r 57),(w "ValueError"),(w "Exception"),(w "BaseException"),(w "object")] 56 (S "PatchError") true [] [(r 70),(r 82),(r 94),(r 106),(r 118),(r 130),(r 142),(r 154)] false none false) [(k (r 48)),none,(k (v "PatchError" 238)),(k (v "PatchError" 246)),(k (b "ValueError.__new__")),(k (vl true))]
noncomputable def bv(P:Params):Obj:=dt [(d P "__module__" 375 (v "patchkin.errors" 236)),(d P "__firstlineno__" 379 (vi 50 378)),(d P "__static_attributes__" 380 (r 152)),(d P "__doc__" 381 vn)] 2
noncomputable def bw:Obj:=of "builtin_function_or_method" [(b "object.__init_subclass__"),(r 142)]
noncomputable def bx:Obj:=of "code" [(v "Same" 354),(v "Same" 355),(v "/claim/cut.py" 356),(i 48),(i 0),(i 0),(i 0),(i 0),(r 136),(vl false),(i 181),(r 137),vn,vn,vn,vn,(i 357),(i 48),(v "/claim/cut.py" 358)]
noncomputable def bz:Obj:=ty (cl (S "Leant") [(r 57)] [(r 154),(r 57),(w "ValueError"),(w "Exception"),(w "BaseException"),(w "object")] 153 (S "Leant") true [] [] false none false) [(k (r 145)),none,(k (v "Leant" 368)),(k (v "Leant" 376)),(k (b "ValueError.__new__")),(k (vl true))]
noncomputable def bA:Obj:=of "getset_descriptor" [(v "__weakref__" 416),(r 173),(b "ExceptionGroup.__weakref__"),vn]
noncomputable def bB:Obj:=fr [(k (r 150)),(k (r 3)),(k (r 147)),none,(k (v "patchkin.errors" 236)),none,(k (r 0))]
noncomputable def bC(P:Params):Obj:=dt [(d P "__module__" 375 (v "patchkin.errors" 236)),(d P "__qualname__" 377 (v "Leant" 376)),(d P "__firstlineno__" 379 (vi 50 378)),(d P "__static_attributes__" 380 (r 152))] 4
noncomputable def bD:Obj:=tp [(v "lower_name" 409),(v "name" 410),(v "text" 411),(v "upper_name" 412)]
noncomputable def bE:Obj:=of "super" [(r 154),(r 154),(r 154)]
noncomputable def bF:Obj:=co "__init__" "Line.__init__" 398 55 5 3 164 181 [165,0,166,167,168] 406
noncomputable def bG:Obj:=ty (cl (S "Line") [(w "object")] [(r 173),(w "object")] 172 (S "Line") true [] [] false none false) [none,none,(k (v "Line" 386)),(k (v "Line" 394)),(k (b "object.__new__")),(k (vl true))]
noncomputable def bH(P:Params):Obj:=dt [(d P "__module__" 393 (v "patchkin.order" 384)),(d P "__firstlineno__" 397 (vi 53 396)),(d P "__init__" 408 (r 170)),(d P "__static_attributes__" 413 (r 171)),(d P "__dict__" 415 (r 174)),(d P "__weakref__" 417 (r 175)),(d P "__doc__" 418 vn)] 4
noncomputable def bI:Obj:=of "builtin_function_or_method" [(b "object.__init_subclass__"),(r 154)]
noncomputable def bJ:Obj:=fn "__init__" "Line.__init__" (y 17 0) "patchkin.order" 384 169
noncomputable def bK:Obj:=tp [(v "self" 401),(v "name" 402),(v "text" 403),(v "upper_name" 404),(v "lower_name" 405)]
noncomputable def bL:Obj:=of "code" [(v "Leant" 370),(v "Leant" 371),(v "/claim/cut.py" 372),(i 50),(i 0),(i 0),(i 0),(i 0),(r 148),(vl false),(i 181),(r 149),vn,vn,vn,vn,(i 373),(i 50),(v "/claim/cut.py" 374)]
noncomputable def bM:Obj:=of "getset_descriptor" [(v "__dict__" 414),(r 173),(b "function.__dict__"),(b "function.__dict__#set")]
noncomputable def bN:Obj:=fn "__init__" "Patch.__init__" (y 18 0) "patchkin.order" 384 190
noncomputable def bO(P:Params):Obj:=dt [(d P "__module__" 393 (v "patchkin.order" 384)),(d P "__qualname__" 395 (v "Line" 394)),(d P "__firstlineno__" 397 (vi 53 396)),(d P "__init__" 408 (r 170)),(d P "__static_attributes__" 413 (r 171))] 5
noncomputable def bP:Obj:=co "leans_straight_on" "leans_straight_on" 464 74 1 3 204 181 [205,0,0,0,206] 467
noncomputable def bQ:Obj:=co "files_with_lines" "files_with_lines" 496 101 1 3 228 181 [229,0,0,0,230] 499
noncomputable def bR:Obj:=fn "live_patches" "live_patches" (x 21) "patchkin.order" 384 214
noncomputable def bS:Obj:=of "getset_descriptor" [(v "__dict__" 451),(r 194),(b "function.__dict__"),(b "function.__dict__#set")]
noncomputable def bT:Obj:=fr [(k (r 162)),(k (r 3)),(k (r 159)),none,(k (v "patchkin.order" 384)),none,(k (r 0))]
noncomputable def bU:Obj:=fn "standing_lines" "standing_lines" (x 23) "patchkin.order" 384 226
noncomputable def bV:Obj:=tp [(v "patches" 473),(v "taken_back" 474),(v "live" 475),(v "patch" 476)]
noncomputable def bW:Obj:=fn "lines_named_by" "lines_named_by" (x 19) "patchkin.order" 384 202
noncomputable def bX:Obj:=tp [(v "self" 436),(v "name" 437),(v "file" 438),(v "puts" 439),(v "cuts" 440),(v "other" 441)]
noncomputable def bY(P:Params):Obj:=dt [(d P "__module__" 428 (v "patchkin.order" 384)),(d P "__firstlineno__" 432 (vi 60 431)),(d P "__init__" 444 (r 191)),(d P "__static_attributes__" 450 (r 192)),(d P "__dict__" 452 (r 195)),(d P "__weakref__" 454 (r 196)),(d P "__doc__" 455 vn)] 4
noncomputable def bZ:Obj:=l3 [(55,4,169)]
noncomputable def b0:Obj:=of "builtin_function_or_method" [(b "object.__init_subclass__"),(r 173)]
noncomputable def b1:Obj:=co "lines_put" "lines_put" 480 88 2 3 216 181 [217,0,218,219,220] 487
noncomputable def b2:Obj:=tp [(v "cuts" 445),(v "file" 446),(v "name" 447),(v "other" 448),(v "puts" 449)]
noncomputable def b3:Obj:=fn "leans_straight_on" "leans_straight_on" (x 20) "patchkin.order" 384 207
noncomputable def b4:Obj:=of "super" [(r 173),(r 173),(r 173)]
noncomputable def b5:Obj:=fv "__init__" "Line.__init__" (y 17 0)
noncomputable def b6:Obj:=fn "files_with_lines" "files_with_lines" (x 24) "patchkin.order" 384 231
noncomputable def b7:Obj:=of "getset_descriptor" [(v "__weakref__" 453),(r 194),(b "ExceptionGroup.__weakref__"),vn]
noncomputable def b8:Obj:=ty (cl (S "Patch") [(w "object")] [(r 194),(w "object")] 193 (S "Patch") true [] [] false none false) [none,none,(k (v "Patch" 421)),(k (v "Patch" 429)),(k (b "object.__new__")),(k (vl true))]
noncomputable def b9:Obj:=of "code" [(v "Line" 388),(v "Line" 389),(v "/claim/cut.py" 390),(i 53),(i 0),(i 0),(i 0),(i 0),(r 160),(vl false),(i 181),(r 161),vn,vn,vn,vn,(i 391),(i 53),(v "/claim/cut.py" 392)]
noncomputable def ca:Obj:=co "standing_lines" "standing_lines" 490 94 2 3 223 181 [224,0,0,0,225] 493
noncomputable def cb:Obj:=co "lines_named_by" "lines_named_by" 458 68 1 3 199 181 [200,0,0,0,201] 461
noncomputable def cc:Obj:=tp [(v "patches" 483),(v "file" 484),(v "lines" 485),(v "patch" 486)]
noncomputable def cd:Obj:=co "live_patches" "live_patches" 470 79 1 3 209 181 [210,0,211,212,213] 477
noncomputable def ce:Obj:=fn "lines_put" "lines_put" (x 22) "patchkin.order" 384 221
noncomputable def cf:Obj:=co "__init__" "Patch.__init__" 433 62 6 3 185 181 [186,0,187,188,189] 442
noncomputable def cg:Obj:=fn "straight_ahead" "straight_ahead" (x 25) "patchkin.order" 384 238
noncomputable def ch:Obj:=fn "row_of" "row_of" (x 29) "patchkin.order" 384 262
noncomputable def ci:Obj:=of "code" [(v "Patch" 423),(v "Patch" 424),(v "/claim/cut.py" 425),(i 60),(i 0),(i 0),(i 0),(i 0),(r 181),(vl false),(i 181),(r 182),vn,vn,vn,vn,(i 426),(i 60),(v "/claim/cut.py" 427)]
noncomputable def cj:Obj:=tp [(v "lines" 505),(v "straight" 506),(v "line" 507)]
noncomputable def ck:Obj:=fn "all_ahead" "all_ahead" (x 27) "patchkin.order" 384 250
noncomputable def cm:Obj:=co "first_free" "first_free" 527 136 1 3 252 181 [253,0,254,255,256] 532
noncomputable def cn:Obj:=fv "standing_lines" "standing_lines" (x 23)
noncomputable def cp:Obj:=fv "lines_named_by" "lines_named_by" (x 19)
noncomputable def cq:Obj:=of "super" [(r 194),(r 194),(r 194)]
noncomputable def cr:Obj:=fv "live_patches" "live_patches" (x 21)
noncomputable def cs:Obj:=co "joined" "joined" 511 114 2 3 240 181 [241,0,242,243,244] 518
noncomputable def ct:Obj:=fv "__init__" "Patch.__init__" (y 18 0)
noncomputable def cu:Obj:=fr [(k (r 183)),(k (r 3)),(k (r 180)),none,(k (v "patchkin.order" 384)),none,(k (r 0))]
noncomputable def cv(P:Params):Obj:=dt [(d P "__module__" 428 (v "patchkin.order" 384)),(d P "__qualname__" 430 (v "Patch" 429)),(d P "__firstlineno__" 432 (vi 60 431)),(d P "__init__" 444 (r 191)),(d P "__static_attributes__" 450 (r 192))] 5
noncomputable def cw:Obj:=fv "lines_put" "lines_put" (x 22)
noncomputable def cx:Obj:=fn "first_free" "first_free" (x 28) "patchkin.order" 384 257
noncomputable def cy:Obj:=tp [(v "names" 514),(v "ahead" 515),(v "found" 516),(v "name" 517)]
noncomputable def cz:Obj:=co "all_ahead" "all_ahead" 521 120 1 3 247 181 [248,0,0,0,249] 524
noncomputable def cA:Obj:=co "row_of" "row_of" 535 141 2 3 259 181 [260,0,0,0,261] 538
noncomputable def cB:Obj:=of "builtin_function_or_method" [(b "object.__init_subclass__"),(r 194)]
noncomputable def cC:Obj:=fv "files_with_lines" "files_with_lines" (x 24)
noncomputable def cD:Obj:=l3 [(62,4,190)]
noncomputable def cE:Obj:=fn "joined" "joined" (x 26) "patchkin.order" 384 245
noncomputable def cF:Obj:=fv "leans_straight_on" "leans_straight_on" (x 20)
noncomputable def cG:Obj:=co "straight_ahead" "straight_ahead" 502 104 1 3 233 181 [234,0,235,236,237] 508
noncomputable def cH:Obj:=tp [(v "waiting" 530),(v "name" 531)]
noncomputable def cI:Obj:=tp [(v "self" 574),(v "pairs" 575),(v "first" 576),(v "second" 577)]
noncomputable def cJ:Obj:=fn "quarrelling" "Sight.quarrelling" (y 30 2) "patchkin.order" 384 290
noncomputable def cK(P:Params):Obj:=dt [(d P "__module__" 548 (v "patchkin.order" 384)),(d P "__firstlineno__" 552 (vi 156 551)),(d P "__init__" 561 (r 277)),(d P "is_ahead" 570 (r 284)),(d P "quarrelling" 580 (r 291)),(d P "most_from" 590 (r 298)),(d P "staying" 601 (r 305)),(d P "__static_attributes__" 604 (r 306)),(d P "__dict__" 606 (r 309)),(d P "__weakref__" 608 (r 310)),(d P "__doc__" 609 vn)] 4
noncomputable def cL:Obj:=co "is_ahead" "Sight.is_ahead" 562 162 3 3 278 181 [279,0,280,281,282] 568
noncomputable def cM:Obj:=tp [(v "self" 556),(v "patches" 557),(v "file" 558)]
noncomputable def cN:Obj:=fn "staying" "Sight.staying" (y 30 4) "patchkin.order" 384 304
noncomputable def cO:Obj:=co "most_from" "Sight.most_from" 581 173 1 3 292 181 [293,0,294,295,296] 588
noncomputable def cP:Obj:=fv "all_ahead" "all_ahead" (x 27)
noncomputable def cQ:Obj:=fv "row_of" "row_of" (x 29)
noncomputable def cR:Obj:=fn "__init__" "Sight.__init__" (y 30 0) "patchkin.order" 384 276
noncomputable def cS:Obj:=of "getset_descriptor" [(v "__dict__" 605),(r 308),(b "function.__dict__"),(b "function.__dict__#set")]
noncomputable def cT:Obj:=tp [(v "self" 594),(v "counts" 595),(v "left" 596),(v "places" 597),(v "place" 598)]
noncomputable def cU:Obj:=fv "straight_ahead" "straight_ahead" (x 25)
noncomputable def cV:Obj:=fv "first_free" "first_free" (x 28)
noncomputable def cW:Obj:=co "staying" "Sight.staying" 591 181 1 3 299 181 [300,0,301,302,303] 599
noncomputable def cX:Obj:=tp [(v "self" 565),(v "first" 566),(v "second" 567)]
noncomputable def cY:Obj:=co "__init__" "Sight.__init__" 553 158 3 3 271 181 [272,0,273,274,275] 559
noncomputable def cZ:Obj:=ty (cl (S "Sight") [(w "object")] [(r 308),(w "object")] 307 (S "Sight") true [] [] false none false) [none,none,(k (v "Sight" 541)),(k (v "Sight" 549)),(k (b "object.__new__")),(k (vl true))]
noncomputable def c0:Obj:=fv "joined" "joined" (x 26)
noncomputable def c1:Obj:=fn "is_ahead" "Sight.is_ahead" (y 30 1) "patchkin.order" 384 283
noncomputable def c2:Obj:=co "quarrelling" "Sight.quarrelling" 571 165 1 3 285 181 [286,0,287,288,289] 578
noncomputable def c3:Obj:=tp [(v "ahead" 602),(v "lines" 603)]
noncomputable def c4:Obj:=fn "most_from" "Sight.most_from" (y 30 3) "patchkin.order" 384 297
noncomputable def c5:Obj:=tp [(v "self" 584),(v "counts" 585),(v "first" 586),(v "second" 587)]
noncomputable def c6:Obj:=of "getset_descriptor" [(v "__weakref__" 607),(r 308),(b "ExceptionGroup.__weakref__"),vn]
noncomputable def c7:Obj:=fv "staying" "Sight.staying" (y 30 4)
noncomputable def c8:Obj:=of "super" [(r 308),(r 308),(r 308)]
noncomputable def c9:Obj:=fv "__init__" "Sight.__init__" (y 30 0)
noncomputable def da:Obj:=fv "quarrelling" "Sight.quarrelling" (y 30 2)
noncomputable def db:Obj:=of "code" [(v "Sight" 543),(v "Sight" 544),(v "/claim/cut.py" 545),(i 156),(i 0),(i 0),(i 0),(i 0),(r 267),(vl false),(i 181),(r 268),vn,vn,vn,vn,(i 546),(i 156),(v "/claim/cut.py" 547)]
noncomputable def dc:Obj:=fv "most_from" "Sight.most_from" (y 30 3)
noncomputable def df:Obj:=of "builtin_function_or_method" [(b "object.__init_subclass__"),(r 308)]
noncomputable def dg:Obj:=l3 [(158,4,276),(162,4,283),(165,4,290),(173,4,297),(181,4,304)]
noncomputable def dh(P:Params):Obj:=dt [(d P "__module__" 548 (v "patchkin.order" 384)),(d P "__qualname__" 550 (v "Sight" 549)),(d P "__firstlineno__" 552 (vi 156 551)),(d P "__init__" 561 (r 277)),(d P "is_ahead" 570 (r 284)),(d P "quarrelling" 580 (r 291)),(d P "most_from" 590 (r 298)),(d P "staying" 601 (r 305)),(d P "__static_attributes__" 604 (r 306))] 9
noncomputable def di:Obj:=fv "is_ahead" "Sight.is_ahead" (y 30 1)
noncomputable def dj:Obj:=fr [(k (r 269)),(k (r 3)),(k (r 266)),none,(k (v "patchkin.order" 384)),none,(k (r 0))]
noncomputable def dk:Obj:=fn "check_name" "check_name" (x 34) "patchkin.desk" 612 318
noncomputable def dl:Obj:=co "new_lines" "new_lines" 646 210 3 3 334 181 [335,0,336,337,338] 657
noncomputable def dm:Obj:=tp [(v "name" 621),(v "sign" 622)]
noncomputable def dn:Obj:=tp [(v "kept_names" 639),(v "size" 640),(v "behind" 641),(v "place" 642)]
noncomputable def dp:Obj:=fn "changing_patch" "changing_patch" (x 38) "patchkin.desk" 612 344
noncomputable def dq:Obj:=co "check_places" "check_places" 626 199 2 3 320 181 [321,0,322,323,324] 633
noncomputable def dr:Obj:=fn "kept_behind" "kept_behind" (x 36) "patchkin.desk" 612 332
noncomputable def ds:Obj:=tp [(v "patch" 649),(v "texts" 650),(v "kept_names" 651),(v "behind" 652),(v "lines" 653),(v "upper_name" 654),(v "place" 655),(v "text" 656)]
noncomputable def du:Obj:=co "changing_patch" "changing_patch" 660 221 4 3 341 181 [342,0,0,0,343] 663
noncomputable def dv:Obj:=fn "new_lines" "new_lines" (x 37) "patchkin.desk" 612 339
noncomputable def dw:Obj:=co "kept_behind" "kept_behind" 636 205 2 3 327 181 [328,0,329,330,331] 643
noncomputable def dx:Obj:=tp [(v "places" 629),(v "size" 630),(v "least" 631),(v "place" 632)]
noncomputable def dy:Obj:=fn "check_places" "check_places" (x 35) "patchkin.desk" 612 325
noncomputable def dz:Obj:=co "check_name" "check_name" 618 193 1 3 313 181 [314,0,315,316,317] 623
noncomputable def dA:Obj:=fv "changing_patch" "changing_patch" (x 38)
noncomputable def dB:Obj:=fv "kept_behind" "kept_behind" (x 36)
noncomputable def dC:Obj:=fv "check_name" "check_name" (x 34)
noncomputable def dD:Obj:=fv "check_places" "check_places" (x 35)
noncomputable def dE:Obj:=fv "new_lines" "new_lines" (x 37)
noncomputable def dF:Obj:=fn "__init__" "Desk.__init__" (y 39 0) "patchkin.desk" 612 358
noncomputable def dG:Obj:=fn "take" "Desk.take" (y 39 8) "patchkin.desk" 612 406
noncomputable def dH:Obj:=fn "leans" "Desk.leans" (y 39 10) "patchkin.desk" 612 418
noncomputable def dI:Obj:=tp [(v "self" 681)]
noncomputable def dJ:Obj:=fn "cut" "Desk.cut" (y 39 6) "patchkin.desk" 612 394
noncomputable def dK:Obj:=co "patches" "Desk.patches" 700 245 1 3 374 181 [375,0,376,377,378] 704
noncomputable def dL:Obj:=fn "has" "Desk.has" (y 39 4) "patchkin.desk" 612 384
noncomputable def dM:Obj:=co "back" "Desk.back" 725 271 4 3 396 181 [397,0,398,399,400] 732
noncomputable def dN:Obj:=tp [(v "self" 696)]
noncomputable def dO:Obj:=co "told" "Desk.told" 757 299 2 3 420 181 [421,0,422,423,424] 762
noncomputable def dP:Obj:=co "record" "Desk.record" 713 252 5 3 386 181 [387,0,0,0,388] 716
noncomputable def dQ:Obj:=fn "stores" "Desk.stores" (y 39 2) "patchkin.desk" 612 372
noncomputable def dR:Obj:=co "begin" "Desk.begin" 685 236 2 3 360 181 [361,0,362,363,364] 690
noncomputable def dS:Obj:=co "drop" "Desk.drop" 741 287 3 3 408 181 [409,0,410,411,412] 748
noncomputable def dT:Obj:=co "has" "Desk.has" 707 248 2 3 381 181 [382,0,0,0,383] 710
noncomputable def dU:Obj:=tp [(v "self" 703)]
noncomputable def dV:Obj:=co "stores" "Desk.stores" 693 242 1 3 367 181 [368,0,369,370,371] 697
noncomputable def dW:Obj:=fn "patches" "Desk.patches" (y 39 3) "patchkin.desk" 612 379
noncomputable def dX:Obj:=co "leans" "Desk.leans" 751 295 2 3 415 181 [416,0,0,0,417] 754
noncomputable def dY:Obj:=fn "back" "Desk.back" (y 39 7) "patchkin.desk" 612 401
noncomputable def dZ:Obj:=co "cut" "Desk.cut" 719 262 5 3 391 181 [392,0,0,0,393] 722
noncomputable def d0:Obj:=tp [(v "self" 688),(v "store" 689)]
noncomputable def d1:Obj:=tp [(v "self" 744),(v "store" 745),(v "patch" 746),(v "name" 747)]
noncomputable def d2:Obj:=fn "record" "Desk.record" (y 39 5) "patchkin.desk" 612 389
noncomputable def d3:Obj:=tp [(v "self" 760),(v "patch" 761)]
noncomputable def d4:Obj:=co "__init__" "Desk.__init__" 678 231 1 3 353 181 [354,0,355,356,357] 682
noncomputable def d5:Obj:=co "take" "Desk.take" 735 277 4 3 403 181 [404,0,0,0,405] 738
noncomputable def d6:Obj:=tp [(v "self" 728),(v "store" 729),(v "patch" 730),(v "other" 731)]
noncomputable def d7:Obj:=fn "begin" "Desk.begin" (y 39 1) "patchkin.desk" 612 365
noncomputable def d8:Obj:=fn "drop" "Desk.drop" (y 39 9) "patchkin.desk" 612 413
noncomputable def d9:Obj:=fv "has" "Desk.has" (y 39 4)
noncomputable def ea:Obj:=of "code" [(v "Desk" 668),(v "Desk" 669),(v "/claim/cut.py" 670),(i 229),(i 0),(i 0),(i 0),(i 0),(r 349),(vl false),(i 181),(r 350),vn,vn,vn,vn,(i 671),(i 229),(v "/claim/cut.py" 672)]
noncomputable def eb:Obj:=fv "stores" "Desk.stores" (y 39 2)
noncomputable def ec:Obj:=fv "leans" "Desk.leans" (y 39 10)
noncomputable def ed:Obj:=fv "cut" "Desk.cut" (y 39 6)
noncomputable def ee:Obj:=fv "__init__" "Desk.__init__" (y 39 0)
noncomputable def ef:Obj:=fv "take" "Desk.take" (y 39 8)
noncomputable def eg:Obj:=fr [(k (r 351)),(k (r 3)),(k (r 348)),none,(k (v "patchkin.desk" 612)),none,(k (r 0))]
noncomputable def eh:Obj:=fv "back" "Desk.back" (y 39 7)
noncomputable def ei:Obj:=fv "told" "Desk.told" (y 39 11)
noncomputable def ej:Obj:=fv "record" "Desk.record" (y 39 5)
noncomputable def ek:Obj:=fv "begin" "Desk.begin" (y 39 1)
noncomputable def el:Obj:=fv "drop" "Desk.drop" (y 39 9)
noncomputable def em:Obj:=fv "patches" "Desk.patches" (y 39 3)
noncomputable def en:Obj:=co "sight_of" "Desk.sight_of" 803 317 3 3 458 181 [459,0,460,461,462] 809
noncomputable def eo:Obj:=tp [(v "self" 850),(v "store" 851),(v "patch" 852),(v "needs" 853),(v "name" 854)]
noncomputable def ep:Obj:=fn "check_store" "Desk.check_store" (y 39 18) "patchkin.desk" 612 470
noncomputable def eq:Obj:=of "getset_descriptor" [(v "__dict__" 862),(r 502),(b "function.__dict__"),(b "function.__dict__#set")]
noncomputable def er:Obj:=co "stay" "Desk.stay" 788 311 3 3 446 181 [447,0,448,449,450] 794
noncomputable def es:Obj:=tp [(v "self" 815),(v "store" 816)]
noncomputable def et:Obj:=fn "keep" "Desk.keep" (y 39 22) "patchkin.desk" 612 498
noncomputable def eu:Obj:=co "check_new" "Desk.check_new" 837 332 3 3 486 181 [487,0,488,489,490] 844
noncomputable def ev:Obj:=tp [(v "self" 831),(v "store" 832),(v "patch" 833)]
noncomputable def ew:Obj:=fn "files" "Desk.files" (y 39 12) "patchkin.desk" 612 432
noncomputable def ex:Obj:=fn "patches_of" "Desk.patches_of" (y 39 16) "patchkin.desk" 612 456
noncomputable def ey:Obj:=tp [(v "self" 782),(v "store" 783),(v "file" 784)]
noncomputable def ez:Obj:=fn "check_held" "Desk.check_held" (y 39 20) "patchkin.desk" 612 484
noncomputable def eA:Obj:=co "row" "Desk.row" 773 305 3 3 434 181 [435,0,0,0,436] 776
noncomputable def eB(P:Params):Obj:=dt [(d P "__module__" 673 (v "patchkin.desk" 612)),(d P "__firstlineno__" 677 (vi 229 676)),(d P "__init__" 684 (r 359)),(d P "begin" 692 (r 366)),(d P "stores" 699 (r 373)),(d P "patches" 706 (r 380)),(d P "has" 712 (r 385)),(d P "record" 718 (r 390)),(d P "cut" 724 (r 395)),(d P "back" 734 (r 402)),(d P "take" 740 (r 407)),(d P "drop" 750 (r 414)),(d P "leans" 756 (r 419)),(d P "told" 764 (r 426)),(d P "files" 772 (r 433)),(d P "row" 778 (r 438)),(d P "quarrels" 787 (r 445)),(d P "stay" 796 (r 452)),(d P "patches_of" 802 (r 457)),(d P "sight_of" 811 (r 464)),(d P "check_store" 819 (r 471)),(d P "check_made" 827 (r 478)),(d P "check_held" 836 (r 485)),(d P "check_new" 846 (r 492)),(d P "keep" 857 (r 499)),(d P "__static_attributes__" 861 (r 500)),(d P "__dict__" 863 (r 503)),(d P "__weakref__" 865 (r 504)),(d P "__doc__" 866 vn)] 4
noncomputable def eC:Obj:=tp [(v "self" 768),(v "store" 769)]
noncomputable def eD:Obj:=co "check_made" "Desk.check_made" 820 324 2 3 472 181 [473,0,474,475,476] 825
noncomputable def eE:Obj:=fn "quarrels" "Desk.quarrels" (y 39 14) "patchkin.desk" 612 444
noncomputable def eF:Obj:=tp [(v "self" 791),(v "store" 792),(v "file" 793)]
noncomputable def eG:Obj:=fn "sight_of" "Desk.sight_of" (y 39 17) "patchkin.desk" 612 463
noncomputable def eH:Obj:=co "files" "Desk.files" 765 302 2 3 427 181 [428,0,429,430,431] 770
noncomputable def eI:Obj:=co "patches_of" "Desk.patches_of" 797 314 2 3 453 181 [454,0,0,0,455] 800
noncomputable def eJ:Obj:=tp [(v "self" 840),(v "patch" 841),(v "files" 842),(v "name" 843)]
noncomputable def eK:Obj:=of "getset_descriptor" [(v "__weakref__" 864),(r 502),(b "ExceptionGroup.__weakref__"),vn]
noncomputable def eL:Obj:=fn "stay" "Desk.stay" (y 39 15) "patchkin.desk" 612 451
noncomputable def eM:Obj:=co "check_held" "Desk.check_held" 828 328 3 3 479 181 [480,0,481,482,483] 834
noncomputable def eN:Obj:=tp [(v "held" 858),(v "made" 859),(v "needs" 860)]
noncomputable def eO:Obj:=tp [(v "self" 806),(v "store" 807),(v "file" 808)]
noncomputable def eP:Obj:=fn "check_new" "Desk.check_new" (y 39 21) "patchkin.desk" 612 491
noncomputable def eQ:Obj:=co "quarrels" "Desk.quarrels" 779 308 3 3 439 181 [440,0,441,442,443] 785
noncomputable def eR:Obj:=co "keep" "Desk.keep" 847 338 3 3 493 181 [494,0,495,496,497] 855
noncomputable def eS:Obj:=fn "told" "Desk.told" (y 39 11) "patchkin.desk" 612 425
noncomputable def eT:Obj:=tp [(v "self" 823),(v "patch" 824)]
noncomputable def eU:Obj:=co "check_store" "Desk.check_store" 812 320 2 3 465 181 [466,0,467,468,469] 817
noncomputable def eV:Obj:=fn "row" "Desk.row" (y 39 13) "patchkin.desk" 612 437
noncomputable def eW:Obj:=ty (cl (S "Desk") [(w "object")] [(r 502),(w "object")] 501 (S "Desk") true [] [] false none false) [none,none,(k (v "Desk" 666)),(k (v "Desk" 674)),(k (b "object.__new__")),(k (vl true))]
noncomputable def eX:Obj:=fn "check_made" "Desk.check_made" (y 39 19) "patchkin.desk" 612 477
noncomputable def eY(P:Params):Obj:=dt ((d P "__name__" 165 (v "law_patchkin_k15_no_such_store" 869))::hn P) 58
noncomputable def eZ:Obj:=co "_law_deed" "_law_deed" 923 391 6 3 540 181 [541,0,0,0,542] 926
noncomputable def e0:Obj:=fn "_law_name" "_law_name" (x 43) "law_patchkin_k15_no_such_store" 869 526
noncomputable def e1:Obj:=fv "files" "Desk.files" (y 39 12)
noncomputable def e2:Obj:=co "_law_draw" "_law_draw" 879 351 3 3 514 181 [515,0,516,517,518] 886
noncomputable def e3:Obj:=fv "patches_of" "Desk.patches_of" (y 39 16)
noncomputable def e4:Obj:=tp [(v "texts" 912),(v "cell" 913),(v "at" 914),(v "line" 915),(v "more" 916),(v "way" 917),(v "out" 918),(v "turned" 919)]
noncomputable def e5:Obj:=co "_law_refused" "_law_refused" 966 452 5 3 574 181 [575,0,576,577,578] 976
noncomputable def e6:Obj:=fv "check_held" "Desk.check_held" (y 39 20)
noncomputable def e7:Obj:=co "_law_text" "_law_text" 903 367 1 3 528 181 [529,0,0,0,530] 906
noncomputable def e8:Obj:=tp [(v "cell" 892),(v "k" 893),(v "signs" 894),(v "size" 895),(v "base" 896),(v "far" 897),(v "found" 898),(v "j" 899)]
noncomputable def e9:Obj:=fn "_law_edit" "_law_edit" (x 45) "law_patchkin_k15_no_such_store" 869 538
noncomputable def fa:Obj:=fv "quarrels" "Desk.quarrels" (y 39 14)
noncomputable def fb:Obj:=fn "_law_cell_at" "_law_cell_at" (x 41) "law_patchkin_k15_no_such_store" 869 512
noncomputable def fc:Obj:=fn "_law_which" "_law_which" (x 49) "law_patchkin_k15_no_such_store" 869 560
noncomputable def fe:Obj:=fv "keep" "Desk.keep" (y 39 22)
noncomputable def ff:Obj:=fn "law" "law" (x 53) "law_patchkin_k15_no_such_store" 869 584
noncomputable def fg:Obj:=co "_law_seen" "_law_seen" 935 422 3 3 550 181 [551,0,0,0,552] 938
noncomputable def fh:Obj:=tp [(v "desk" 958),(v "what" 959),(v "store" 960),(v "other" 961),(v "file" 962)]
noncomputable def fi:Obj:=of "super" [(r 502),(r 502),(r 502)]
noncomputable def fj:Obj:=fn "_law_desk" "_law_desk" (x 47) "law_patchkin_k15_no_such_store" 869 548
noncomputable def fk:Obj:=fv "check_store" "Desk.check_store" (y 39 18)
noncomputable def fm:Obj:=co "_law_due" "_law_due" 949 428 1 3 562 181 [563,0,0,0,564] 952
noncomputable def fo:Obj:=tp [(v "e" 944),(v "some" 945)]
noncomputable def fp:Obj:=fn "_law_ask" "_law_ask" (x 51) "law_patchkin_k15_no_such_store" 869 572
noncomputable def fq:Obj:=tp [(v "script" 874),(v "k" 875)]
noncomputable def fs:Obj:=co "_law_cell_at" "_law_cell_at" 871 347 2 3 507 181 [508,0,509,510,511] 876
noncomputable def ft:Obj:=tp [(v "desk" 969),(v "what" 970),(v "store" 971),(v "other" 972),(v "file" 973),(v "which" 974),(v "e" 975)]
noncomputable def fu:Obj:=fn "_law_deed" "_law_deed" (x 46) "law_patchkin_k15_no_such_store" 869 543
noncomputable def fw:Obj:=co "_law_which" "_law_which" 941 424 1 3 555 181 [556,0,557,558,559] 946
noncomputable def fx:Obj:=fn "_law_draw" "_law_draw" (x 42) "law_patchkin_k15_no_such_store" 869 519
noncomputable def fy:Obj:=co "law" "law" 979 459 1 3 581 181 [582,0,0,0,583] 982
noncomputable def fz:Obj:=tp [(v "cell" 882),(v "k" 883),(v "bound" 884),(v "stir" 885)]
noncomputable def fA:Obj:=fn "_law_refused" "_law_refused" (x 52) "law_patchkin_k15_no_such_store" 869 579
noncomputable def fB:Obj:=co "_law_desk" "_law_desk" 929 410 4 3 545 181 [546,0,0,0,547] 932
noncomputable def fC:Obj:=fn "_law_text" "_law_text" (x 44) "law_patchkin_k15_no_such_store" 869 531
noncomputable def fD:Obj:=fv "row" "Desk.row" (y 39 13)
noncomputable def fE(P:Params):Obj:=dt [(d P "__module__" 673 (v "patchkin.desk" 612)),(d P "__qualname__" 675 (v "Desk" 674)),(d P "__firstlineno__" 677 (vi 229 676)),(d P "__init__" 684 (r 359)),(d P "begin" 692 (r 366)),(d P "stores" 699 (r 373)),(d P "patches" 706 (r 380)),(d P "has" 712 (r 385)),(d P "record" 718 (r 390)),(d P "cut" 724 (r 395)),(d P "back" 734 (r 402)),(d P "take" 740 (r 407)),(d P "drop" 750 (r 414)),(d P "leans" 756 (r 419)),(d P "told" 764 (r 426)),(d P "files" 772 (r 433)),(d P "row" 778 (r 438)),(d P "quarrels" 787 (r 445)),(d P "stay" 796 (r 452)),(d P "patches_of" 802 (r 457)),(d P "sight_of" 811 (r 464)),(d P "check_store" 819 (r 471)),(d P "check_made" 827 (r 478)),(d P "check_held" 836 (r 485)),(d P "check_new" 846 (r 492)),(d P "keep" 857 (r 499)),(d P "__static_attributes__" 861 (r 500))] 27
noncomputable def fF:Obj:=fv "check_made" "Desk.check_made" (y 39 19)
noncomputable def fG:Obj:=co "_law_ask" "_law_ask" 955 430 5 3 567 181 [568,0,569,570,571] 963
noncomputable def fH:Obj:=fv "stay" "Desk.stay" (y 39 15)
noncomputable def fI:Obj:=fn "_law_seen" "_law_seen" (x 48) "law_patchkin_k15_no_such_store" 869 553
noncomputable def fJ:Obj:=fv "check_new" "Desk.check_new" (y 39 21)
noncomputable def fK:Obj:=co "_law_edit" "_law_edit" 909 375 2 3 533 181 [534,0,535,536,537] 920
noncomputable def fL:Obj:=of "builtin_function_or_method" [(b "object.__init_subclass__"),(r 502)]
noncomputable def fM:Obj:=fn "_law_due" "_law_due" (x 50) "law_patchkin_k15_no_such_store" 869 565
noncomputable def fN:Obj:=co "_law_name" "_law_name" 889 355 2 3 521 181 [522,0,523,524,525] 900
noncomputable def fO:Obj:=fv "sight_of" "Desk.sight_of" (y 39 17)
noncomputable def fP:Obj:=l3 [(231,4,358),(236,4,365),(242,4,372),(245,4,379),(248,4,384),(252,4,389),(262,4,394),(271,4,401),(277,4,406),(287,4,413),(295,4,418),(299,4,425),(302,4,432),(305,4,437),(308,4,444),(311,4,451),(314,4,456),(317,4,463),(320,4,470),(324,4,477),(328,4,484),(332,4,491),(338,4,498)]
noncomputable def fQ(P:Params):Obj:=dt ((d P "__name__" 165 (v "patchkin.desk" 612))::hl P) 44
noncomputable def fR:Obj:=l3 [(1,0,20),(5,0,27),(13,0,32),(18,0,39),(23,0,46),(34,0,53),(36,0,66),(38,0,78),(40,0,90),(42,0,102),(44,0,114),(46,0,126),(48,0,138),(50,0,150),(53,0,162),(60,0,183),(68,0,202),(74,0,207),(79,0,214),(88,0,221),(94,0,226),(101,0,231),(104,0,238),(114,0,245),(120,0,250),(136,0,257),(141,0,262),(156,0,269),(193,0,318),(199,0,325),(205,0,332),(210,0,339),(221,0,344),(229,0,351)]
noncomputable def fS:Obj:=fv "_law_cell_at" "_law_cell_at" (x 41)
noncomputable def fT:Obj:=fv "_law_which" "_law_which" (x 49)
noncomputable def fV:Obj:=fv "_law_desk" "_law_desk" (x 47)
noncomputable def fW:Obj:=fv "_law_ask" "_law_ask" (x 51)
noncomputable def fX:Obj:=fv "_law_edit" "_law_edit" (x 45)
noncomputable def fY:Obj:=fv "_law_name" "_law_name" (x 43)
noncomputable def fZ:Obj:=fv "_law_seen" "_law_seen" (x 48)
noncomputable def f0:Obj:=l3 [(1,0,20),(5,0,27),(13,0,32),(18,0,39),(23,0,46),(34,0,53),(36,0,66),(38,0,78),(40,0,90),(42,0,102),(44,0,114),(46,0,126),(48,0,138),(50,0,150),(53,0,162),(60,0,183),(68,0,202),(74,0,207),(79,0,214),(88,0,221),(94,0,226),(101,0,231),(104,0,238),(114,0,245),(120,0,250),(136,0,257),(141,0,262),(156,0,269),(193,0,318),(199,0,325),(205,0,332),(210,0,339),(221,0,344),(229,0,351),(347,0,512),(351,0,519),(355,0,526),(367,0,531),(375,0,538),(391,0,543),(410,0,548),(422,0,553),(424,0,560),(428,0,565),(430,0,572),(452,0,579),(459,0,584)]
noncomputable def f1:Obj:=fv "_law_due" "_law_due" (x 50)
noncomputable def f2:Obj:=fv "_law_refused" "_law_refused" (x 52)
noncomputable def f3:Obj:=fv "_law_text" "_law_text" (x 44)
noncomputable def f4:Obj:=fv "_law_draw" "_law_draw" (x 42)
noncomputable def f5:Obj:=fv "_law_deed" "_law_deed" (x 46)
noncomputable def f6(P:Params):Obj:=dt ((d P "__name__" 165 (v "patchkin.desk" 612))::hk P) 39
noncomputable def f8(P:Params):Obj:=dt ((d P "__name__" 165 (v "patchkin.order" 384))::hh P) 24
noncomputable def ga(P:Params):Obj:=dt ((d P "__name__" 165 (v "patchkin.order" 384))::hi P) 31
noncomputable def gc(P:Params):Obj:=dt ((d P "__name__" 165 (v "patchkin.errors" 236))::hb P) 18
noncomputable def gf(P:Params):Obj:=dt ((d P "__name__" 165 (v "patchkin.errors" 236))::g8 P) 15
noncomputable def gi(P:Params):Obj:=dt ((d P "__name__" 165 (v "patchkin.errors" 236))::hf P) 22
noncomputable def gl(P:Params):Obj:=dt ((d P "__name__" 165 (v "patchkin.errors" 236))::ha P) 17
noncomputable def go(P:Params):Obj:=dt ((d P "__name__" 165 (v "patchkin.order" 384))::hj P) 36
noncomputable def gq(P:Params):Obj:=dt ((d P "__name__" 165 (v "patchkin.order" 384))::hg P) 23
noncomputable def gs(P:Params):Obj:=dt ((d P "__name__" 165 (v "patchkin.errors" 236))::g9 P) 16
noncomputable def gv(P:Params):Obj:=dt ((d P "__name__" 165 (v "patchkin.errors" 236))::he P) 21
noncomputable def gB(P:Params):Obj:=dt ((d P "__name__" 165 (v "patchkin.desk" 612))::hm P) 45
noncomputable def gC(P:Params):Obj:=dt ((d P "__name__" 165 (v "patchkin.errors" 236))::hd P) 20
noncomputable def gF(P:Params):Obj:=dt ((d P "__name__" 165 (v "patchkin.errors" 236))::hc P) 19
noncomputable def gI:BT:=n aa (f aa) z
noncomputable def gJ:BT:=n ab (f ac) z
noncomputable def gK:BT:=n ab (f ab) z
noncomputable def gL:BT:=n aa (f aa) (f aa)
noncomputable def gM:BT:=n ab (f ab) (f ab)
noncomputable def gN:BT:=n aq (n aP (f aa) (f ab)) (n aa (f b5) (f b6))
noncomputable def gO:BT:=n aA (n ab (f aN) z) (n aa (f aT) z)
noncomputable def gP:BT:=n ab (n an (f aa) (f a3)) (n ao (f aa) z)
noncomputable def gQ:BT:=n au (n av (f aa) z) (n ab (f aW) z)
noncomputable def gR:BT:=n ab (n ay (f aX) z) (n ac (f aY) z)
noncomputable def gS(P:Params):BT:=n aa (n az (n (aL P) (f bk) z) (f aZ)) (n ag (n aS (f br) z) (f (bd P)))
noncomputable def gT(P:Params):BT:=n aA (n ab (n aN (f bl) z) (f (a7 P))) (n aa (f aT) (f bf))
noncomputable def gU(P:Params):BT:=n ak (n al (n ab (f (bg P)) z) (f ad)) (n ac (f (aO P)) (f ab))
noncomputable def gV(P:Params):BT:=n aa (n aE (n ab (f (bn P)) z) (f ad)) (n ad (f (aV P)) (f ab))
noncomputable def gW:BT:=n ab (n an gI (f a3)) (n ao (n aa (f bw) z) (f aa))
noncomputable def gX:BT:=n au (n av (n aa (f bo) z) (f aa)) (n ab (f aW) (f aa))
noncomputable def gY(P:Params):BT:=n aa (n aa (n aQ (f bi) z) (f ac)) (n (aG P) (f aR) (f bj))
noncomputable def gZ:BT:=n ab (n ay (n aX (f bp) z) (f ac)) (n ac (f aY) (f bq))
noncomputable def g0(P:Params):BT:=n am (n aa (f (aC P)) (f ab)) (n aD (f ad) (f (a9 P)))
noncomputable def g1:BT:=n aa (n aI (f aJ) (f bb)) (n aK (f ac) (f bc))
noncomputable def g2:BT:=n aa (f ab) z
noncomputable def g3:BT:=n ab (f aa) z
noncomputable def g4:BT:=n aa (f aa) (f ab)
noncomputable def g5:BT:=n aa (f ab) (f aa)
noncomputable def g6:BT:=n aw (n aa (f aa) (f ba)) (n aF (f aa) z)
noncomputable def g7:BT:=n aH (n ab (f ac) (f a4)) (n ax (f a5) z)
noncomputable def _root_.PySem.W.Fast.tw1211552147767300227:Program:=PySem.Challenge.pw_patchkin_k15_no_such_store
theorem _root_.PySem.W.Fast.te1211552147767300227:Fast.tw1211552147767300227=Fast.tw1211552147767300227:=rfl
noncomputable def _root_.PySem.W.Fast.tw8895418566659762438:Params→BT:=fun P=>n (boot_o_0 P) (n (boot_o_1 P) (n (f6 P) (n (boot_o_7 P) (n aa (n az (n (aL P) (n bk (f aa) z) (f bN)) (n aZ (n (bO P) (f cI) z) (f aa))) (n ag (n aS (n br (f aa) z) (f bP)) (n (bd P) (n bA (f c7) z) (f cg)))) (n ab (n ah (n aM (n (bs P) (f ch) z) (f aa)) (n a6 gI (f bQ))) (n aa (n (a0 P) (n bB (f ab) z) (f bR)) (n be (n ci (f c8) z) (f aa))))) (n aa (n aA (n ab (n aN (n bl (f aa) z) (f bS)) (n (a7 P) (n bT (f cJ) z) (f bU))) (n aa (n aT (n (bC P) (f c9) z) (f bV)) (n bf (n ac (f (cK P)) z) (f aa)))) (n ai (n aj (n (aU P) (n bt (f aa) z) (f bW)) (n a8 (n bD (f aa) z) (f cj))) (n aB (n a1 (n bE (f cL) z) (f aa)) (n (bm P) (f bX) (f ck)))))) (n (boot_o_5 P) (n (boot_o_9 P) (n ak (n al (n ab (n (bg P) (f cm) z) (f (bY P))) (n ad (n bZ (f da) z) (f cn))) (n ac (n (aO P) (n ad (f cM) z) (f aa)) (n ab (n b0 (f cN) z) (f ab)))) (n aa (n aa (n ad gJ (f cp)) (n (a2 P) (n bF (f cO) z) (f aa))) (n bu (n ab (n (bv P) (f aa) z) (f ab)) (n ad (f aa) (f cP))))) (n ae (n am (n aa (n (aC P) (n ad (f cQ) z) (f cq)) (n ab gK (f ab))) (n aD (n ad (n ab (f cR) z) (f cr)) (n (a9 P) (n aa (f cS) z) (f cs)))) (n aa (n aE (n ab (n (bn P) (f db) z) (f ab)) (n ad (n bG (f cT) z) (f cU))) (n ad (n (aV P) gI (f b1)) (n ab (f ct) (f ab))))))) (n (boot_o_2 P) (n (boot_o_4 P) (n (boot_o_8 P) (n ab (n an (n aa (n aa (f cV) z) (f b2)) (n a3 gI (f ab))) (n ao (n aa (n bw (f ab) z) (f b3)) (n aa (n b4 (f cW) z) (f aa)))) (n ap (n aq (n aP gI (f ab)) (n aa (n b5 (f dc) z) (f b6))) (n (ar P) (n aa (n aa (f cX) z) (f aa)) (n bh (n cu (f df) z) (f ab))))) (n (l3 [(1,0,20),(5,0,27),(13,0,32),(18,0,39),(23,0,46),(34,0,53),(36,0,66),(38,0,78),(40,0,90),(42,0,102),(44,0,114),(46,0,126),(48,0,138),(50,0,150),(53,0,162),(60,0,183),(68,0,202),(74,0,207),(79,0,214),(88,0,221),(94,0,226),(101,0,231),(104,0,238),(114,0,245),(120,0,250),(136,0,257),(141,0,262),(156,0,269)]) (n au (n av (n aa (n bo (f ab) z) (f b7)) (n aa gI (f aa))) (n ab (n aW (n aa (f cY) z) (f aa)) (n aa (n (cv P) (f cZ) z) (f c0)))) (n aw (n aa (n aa (n aa (f dg) z) (f aa)) (n ba (n (bH P) (f ab) z) (f aa))) (n aF (n aa (n bI (f c1) z) (f cw)) gL)))) (n (boot_o_6 P) (n (boot_o_10 P) (n aa (n aa (n aQ (n bi (f cx) z) (f b8)) (n ac (n b9 (f c2) z) (f ca))) (n (aG P) (n aR (n ac (f aa) z) (f ab)) (n bj (n aa (f c3) z) (f cy)))) (n aH (n ab (n ac (n bx (f (dh P)) z) (f cb)) (n a4 (n bJ (f c4) z) (f ab))) (n ax (n a5 (n bz (f di) z) (f cc)) (n ac (f ab) (f cz))))) (n af (n aa (n aI (n aJ (n ac (f cA) z) (f cB)) (n bb (n bK (f c5) z) (f cC))) (n aK (n ac (n bL (f aa) z) (f cd)) (n bc (n cD (f c6) z) (f cE)))) (n ab (n ay (n aX (n bp (f dj) z) (f cF)) (n ac (n bM (f aa) z) (f cG))) (n ac (n aY (n ac (f ab) z) (f ce)) (n bq (f cf) (f cH)))))))
theorem _root_.PySem.W.Fast.te8895418566659762438:Fast.tw8895418566659762438=Fast.tw8895418566659762438:=rfl
noncomputable def _root_.PySem.W.Fast.tw5115246540970767403:Params→BT:=fun P=>n (boot_o_0 P) (n (boot_o_1 P) (n (f8 P) (n (boot_o_7 P) (n aa (n az (n (aL P) (f bk) z) (n aZ (f (bO P)) z)) (n ag (n aS (f br) z) (n (bd P) (f bA) z))) (n ab (n ah (n aM (f (bs P)) z) (n a6 (f aa) z)) (n aa (n (a0 P) (f bB) z) (f be)))) (n aa (n aA (n ab (n aN (f bl) z) (n (a7 P) (f bT) z)) (n aa (n aT (f (bC P)) z) (f bf))) (n ai (n aj (n (aU P) (f bt) z) (n a8 (f bD) z)) (n aB (n a1 (f bE) z) (f (bm P)))))) (n (boot_o_5 P) (n (boot_o_9 P) (n ak (n al (n ab (f (bg P)) z) (n ad (f bZ) z)) (n ac (n (aO P) (f ad) z) (n ab (f b0) z))) (n aa (n aa (n ad (f ab) z) (n (a2 P) (f bF) z)) (n bu (n ab (f (bv P)) z) (f ad)))) (n ae (n am (n aa (n (aC P) (f ad) z) gK) (n aD (n ad (f ab) z) (f (a9 P)))) (n aa (n aE (n ab (f (bn P)) z) (n ad (f bG) z)) (n ad (n (aV P) (f aa) z) (f ab)))))) (n (boot_o_2 P) (n (boot_o_4 P) (n (boot_o_8 P) (n ab (n an gI (n a3 (f aa) z)) (n ao (n aa (f bw) z) (n aa (f b4) z))) (n ap (n aq (n aP (f aa) z) (n aa (f b5) z)) (n (ar P) gI (f bh)))) (n (l3 [(1,0,20),(5,0,27),(13,0,32),(18,0,39),(23,0,46),(34,0,53),(36,0,66),(38,0,78),(40,0,90),(42,0,102),(44,0,114),(46,0,126),(48,0,138),(50,0,150),(53,0,162)]) (n au (n av (n aa (f bo) z) gI) (n ab (n aW (f aa) z) (f aa))) (n aw (n aa gI (n ba (f (bH P)) z)) (n aF (n aa (f bI) z) (f aa))))) (n (boot_o_6 P) (n (boot_o_10 P) (n aa (n aa (n aQ (f bi) z) (n ac (f b9) z)) (n (aG P) (n aR (f ac) z) (f bj))) (n aH (n ab (n ac (f bx) z) (n a4 (f bJ) z)) (n ax (n a5 (f bz) z) (f ac)))) (n af (n aa (n aI (n aJ (f ac) z) (n bb (f bK) z)) (n aK (n ac (f bL) z) (f bc))) (n ab (n ay (n aX (f bp) z) (n ac (f bM) z)) (n ac (n aY (f ac) z) (f bq))))))
theorem _root_.PySem.W.Fast.te5115246540970767403:Fast.tw5115246540970767403=Fast.tw5115246540970767403:=rfl
noncomputable def _root_.PySem.W.Fast.tw9171551179165317261:Params→BT:=fun P=>n (boot_o_0 P) (n (boot_o_1 P) (n (ga P) (n (boot_o_7 P) (n aa (n az (n (aL P) (f bk) (f bN)) (n aZ (f (bO P)) (f aa))) (n ag (n aS (f br) (f bP)) (n (bd P) (f bA) z))) (n ab (n ah (n aM (f (bs P)) (f aa)) (n a6 (f aa) (f bQ))) (n aa (n (a0 P) (f bB) (f bR)) (n be (f ci) z)))) (n aa (n aA (n ab (n aN (f bl) (f bS)) (n (a7 P) (f bT) (f bU))) (n aa (n aT (f (bC P)) (f bV)) (n bf (f ac) z))) (n ai (n aj (n (aU P) (f bt) (f bW)) (n a8 (f bD) z)) (n aB (n a1 (f bE) (f aa)) (n (bm P) (f bX) z))))) (n (boot_o_5 P) (n (boot_o_9 P) (n ak (n al (n ab (f (bg P)) (f (bY P))) (n ad (f bZ) (f cn))) (n ac (n (aO P) (f ad) (f aa)) (n ab (f b0) z))) (n aa (n aa (n ad (f ab) (f cp)) (n (a2 P) (f bF) z)) (n bu (n ab (f (bv P)) (f ab)) (n ad (f aa) z)))) (n ae (n am (n aa (n (aC P) (f ad) (f cq)) gM) (n aD (n ad (f ab) (f cr)) (n (a9 P) (f aa) z))) (n aa (n aE (n ab (f (bn P)) (f ab)) (n ad (f bG) z)) (n ad (n (aV P) (f aa) (f b1)) (n ab (f ct) z)))))) (n (boot_o_2 P) (n (boot_o_4 P) (n (boot_o_8 P) (n ab (n an (n aa (f aa) (f b2)) (n a3 (f aa) (f ab))) (n ao (n aa (f bw) (f b3)) (n aa (f b4) z))) (n ap gN (n (ar P) gL (n bh (f cu) z)))) (n (l3 [(1,0,20),(5,0,27),(13,0,32),(18,0,39),(23,0,46),(34,0,53),(36,0,66),(38,0,78),(40,0,90),(42,0,102),(44,0,114),(46,0,126),(48,0,138),(50,0,150),(53,0,162),(60,0,183),(68,0,202),(74,0,207),(79,0,214),(88,0,221),(94,0,226),(101,0,231)]) (n au (n av (n aa (f bo) (f b7)) gL) (n ab (n aW (f aa) (f aa)) (n aa (f (cv P)) z))) (n aw (n aa gL (n ba (f (bH P)) z)) (n aF (n aa (f bI) (f cw)) gI)))) (n (boot_o_6 P) (n (boot_o_10 P) (n aa (n aa (n aQ (f bi) (f b8)) (n ac (f b9) (f ca))) (n (aG P) (n aR (f ac) (f ab)) (n bj (f aa) z))) (n aH (n ab (n ac (f bx) (f cb)) (n a4 (f bJ) z)) (n ax (n a5 (f bz) (f cc)) (n ac (f ab) z)))) (n af (n aa (n aI (n aJ (f ac) (f cB)) (n bb (f bK) (f cC))) (n aK (n ac (f bL) (f cd)) (n bc (f cD) z))) (n ab (n ay (n aX (f bp) (f cF)) (n ac (f bM) z)) (n ac (n aY (f ac) (f ce)) (n bq (f cf) z))))))
theorem _root_.PySem.W.Fast.te9171551179165317261:Fast.tw9171551179165317261=Fast.tw9171551179165317261:=rfl
noncomputable def _root_.PySem.W.Fast.tw15660053448088522414:Params→BT:=fun P=>n (boot_o_0 P) (n (boot_o_1 P) (n (gc P) (n (boot_o_7 P) (n aa (n az (f (aL P)) (f aZ)) (n ag (f aS) z)) (n ab (n ah (f aM) z) (n aa (f (a0 P)) z))) (n aa gO (n ai (n aj (f (aU P)) z) (n aB (f a1) z)))) (n (boot_o_5 P) (n (boot_o_9 P) (n ak (n al (f ab) z) (n ac (f (aO P)) z)) (n aa (n aa (f ad) z) (n (ty (cl (S "PatchError") [(w "ValueError")] [(r 57),(w "ValueError"),(w "Exception"),(w "BaseException"),(w "object")] 56 (S "PatchError") true [] [(r 70),(r 82),(r 94)] false none false) [(k (r 48)),none,(k (v "PatchError" 238)),(k (v "PatchError" 246)),(k (b "ValueError.__new__")),(k (vl true))]) (f ab) z))) (n ae (n am (n aa (f (aC P)) z) (n aD (f ad) z)) (n aa (n aE (f ab) z) (n ad (f (aV P)) z))))) (n (boot_o_2 P) (n (boot_o_4 P) (n (boot_o_8 P) gP (n ap (n aq (f aP) z) (n (ar P) (f aa) z))) (n (l3 [(1,0,20),(5,0,27),(13,0,32),(18,0,39),(23,0,46),(34,0,53),(36,0,66),(38,0,78),(40,0,90)]) gQ (n aw gI (n aF (f aa) z)))) (n (boot_o_6 P) (n (boot_o_10 P) (n aa (n aa (f aQ) z) (n (aG P) (f aR) z)) (n aH gJ (n ax (f a5) z))) (n af (n aa (n aI (f aJ) z) (n aK (f ac) z)) gR)))
theorem _root_.PySem.W.Fast.te15660053448088522414:Fast.tw15660053448088522414=Fast.tw15660053448088522414:=rfl
noncomputable def _root_.PySem.W.Fast.tw17058531088322554862:Params→BT:=fun P=>n (boot_o_0 P) (n (boot_o_1 P) (n (gf P) (n (boot_o_7 P) (n aa (f az) (f ag)) (n ab (f ah) (f aa))) (n aa (n aA (f ab) (f aa)) (n ai (f aj) (f aB)))) (n (boot_o_5 P) (n (boot_o_9 P) (n ak (f al) (f ac)) (n aa (f aa) (f (ty (cl (S "PatchError") [(w "ValueError")] [(r 57),(w "ValueError"),(w "Exception"),(w "BaseException"),(w "object")] 56 (S "PatchError") true [] [] false none false) [(k (r 48)),none,(k (v "PatchError" 238)),(k (v "PatchError" 246)),(k (b "ValueError.__new__")),(k (vl true))])))) (n ae (n am (f aa) (f aD)) (n aa (f aE) z)))) (n (boot_o_2 P) (n (boot_o_4 P) (n (boot_o_8 P) (n ab (f an) (f ao)) (n ap (f aq) (f (ar P)))) (n (l3 [(1,0,20),(5,0,27),(13,0,32),(18,0,39),(23,0,46),(34,0,53)]) (n au (f av) (f ab)) (n aw (f aa) (f aF)))) (n (boot_o_6 P) (n (boot_o_10 P) (n aa (f aa) (f (aG P))) (n aH (f ab) (f ax))) (n af (n aa (f aI) (f aK)) (n ab (f ay) z))))
theorem _root_.PySem.W.Fast.te17058531088322554862:Fast.tw17058531088322554862=Fast.tw17058531088322554862:=rfl
noncomputable def _root_.PySem.W.Fast.tw11675905628494471728:Params→BT:=fun P=>n (boot_o_0 P) (n (boot_o_1 P) (n (gi P) (n (boot_o_7 P) (gS P) (n ab (n ah (n aM (f (bs P)) z) (f a6)) (n aa (f (a0 P)) (f be)))) (n aa (gT P) (n ai (n aj (n (aU P) (f bt) z) (f a8)) (n aB (f a1) (f (bm P)))))) (n (boot_o_5 P) (n (boot_o_9 P) (gU P) (n aa (n aa (n ad (f ab) z) (f (a2 P))) (n (ty (cl (S "PatchError") [(w "ValueError")] [(r 57),(w "ValueError"),(w "Exception"),(w "BaseException"),(w "object")] 56 (S "PatchError") true [] [(r 70),(r 82),(r 94),(r 106),(r 118),(r 130),(r 142)] false none false) [(k (r 48)),none,(k (v "PatchError" 238)),(k (v "PatchError" 246)),(k (b "ValueError.__new__")),(k (vl true))]) (f ab) (f ad)))) (n ae (n am (n aa (n (aC P) (f ad) z) (f ab)) (n aD (f ad) (f (a9 P)))) (gV P)))) (n (boot_o_2 P) (n (boot_o_4 P) (n (boot_o_8 P) gW (n ap (n aq (n aP (f aa) z) (f aa)) (n (ar P) (f aa) (f bh)))) (n (l3 [(1,0,20),(5,0,27),(13,0,32),(18,0,39),(23,0,46),(34,0,53),(36,0,66),(38,0,78),(40,0,90),(42,0,102),(44,0,114),(46,0,126),(48,0,138)]) gX (n aw (n aa gI (f ba)) (n aF (f aa) (f aa))))) (n (boot_o_6 P) (n (boot_o_10 P) (gY P) (n aH (n ab (n ac (f bx) z) (f a4)) (n ax (f a5) (f ac)))) (n af (n aa (n aI (n aJ (f ac) z) (f bb)) (n aK (f ac) (f bc))) gZ)))
theorem _root_.PySem.W.Fast.te11675905628494471728:Fast.tw11675905628494471728=Fast.tw11675905628494471728:=rfl
noncomputable def _root_.PySem.W.Fast.tw8669824167193215984:Params→BT:=fun P=>n (boot_o_0 P) (n (boot_o_1 P) (n (gl P) (n (boot_o_7 P) (n aa (n az (f (aL P)) z) (n ag (f aS) z)) (n ab (n ah (f aM) z) (f aa))) (n aa gO (n ai (n aj (f (aU P)) z) (f aB)))) (n (boot_o_5 P) (n (boot_o_9 P) (n ak (n al (f ab) z) (n ac (f (aO P)) z)) (n aa (n aa (f ad) z) (f (ty (cl (S "PatchError") [(w "ValueError")] [(r 57),(w "ValueError"),(w "Exception"),(w "BaseException"),(w "object")] 56 (S "PatchError") true [] [(r 70),(r 82)] false none false) [(k (r 48)),none,(k (v "PatchError" 238)),(k (v "PatchError" 246)),(k (b "ValueError.__new__")),(k (vl true))])))) (n ae (n am (n aa (f (aC P)) z) (f aD)) (n aa (n aE (f ab) z) (f ad))))) (n (boot_o_2 P) (n (boot_o_4 P) (n (boot_o_8 P) (n ab (n an (f aa) z) (n ao (f aa) z)) (n ap (n aq (f aP) z) (f (ar P)))) (n (l3 [(1,0,20),(5,0,27),(13,0,32),(18,0,39),(23,0,46),(34,0,53),(36,0,66),(38,0,78)]) gQ (n aw gI (f aF)))) (n (boot_o_6 P) (n (boot_o_10 P) (n aa (n aa (f aQ) z) (n (aG P) (f aR) z)) (n aH gJ (f ax))) (n af (n aa (n aI (f aJ) z) (f aK)) (n ab (n ay (f aX) z) (f ac)))))
theorem _root_.PySem.W.Fast.te8669824167193215984:Fast.tw8669824167193215984=Fast.tw8669824167193215984:=rfl
noncomputable def _root_.PySem.W.Fast.tw12838155480915937715:Params→BT:=fun P=>n (boot_o_0 P) (n (boot_o_1 P) (n (go P) (n (boot_o_7 P) (n aa (n az (n (aL P) (n bk (f aa) z) (f bN)) (n aZ (f (bO P)) (f aa))) (n ag (n aS (f br) (f bP)) (n (bd P) (f bA) (f cg)))) (n ab (n ah (n aM (n (bs P) (f ch) z) (f aa)) (n a6 (f aa) (f bQ))) (n aa (n (a0 P) (f bB) (f bR)) (n be (f ci) (f aa))))) (n aa (n aA (n ab (n aN (n bl (f aa) z) (f bS)) (n (a7 P) (f bT) (f bU))) (n aa (n aT (f (bC P)) (f bV)) (n bf (f ac) (f aa)))) (n ai (n aj (n (aU P) (f bt) (f bW)) (n a8 (f bD) (f cj))) (n aB (n a1 (f bE) (f aa)) (n (bm P) (f bX) (f ck)))))) (n (boot_o_5 P) (n (boot_o_9 P) (n ak (n al (n ab (n (bg P) (f cm) z) (f (bY P))) (n ad (f bZ) (f cn))) (n ac (n (aO P) (f ad) (f aa)) (n ab (f b0) (f ab)))) (n aa (n aa (n ad (f ab) (f cp)) (n (a2 P) (f bF) (f aa))) (n bu (n ab (f (bv P)) (f ab)) (n ad (f aa) (f cP))))) (n ae (n am (n aa (n (aC P) (n ad (f cQ) z) (f cq)) gM) (n aD (n ad (f ab) (f cr)) (n (a9 P) (f aa) (f cs)))) (n aa (n aE (n ab (f (bn P)) (f ab)) (n ad (f bG) (f cU))) (n ad (n (aV P) (f aa) (f b1)) (n ab (f ct) (f ab))))))) (n (boot_o_2 P) (n (boot_o_4 P) (n (boot_o_8 P) (n ab (n an (n aa (n aa (f cV) z) (f b2)) (n a3 (f aa) (f ab))) (n ao (n aa (f bw) (f b3)) (n aa (f b4) (f aa)))) (n ap gN (n (ar P) gL (n bh (f cu) (f ab))))) (n (l3 [(1,0,20),(5,0,27),(13,0,32),(18,0,39),(23,0,46),(34,0,53),(36,0,66),(38,0,78),(40,0,90),(42,0,102),(44,0,114),(46,0,126),(48,0,138),(50,0,150),(53,0,162),(60,0,183),(68,0,202),(74,0,207),(79,0,214),(88,0,221),(94,0,226),(101,0,231),(104,0,238),(114,0,245),(120,0,250),(136,0,257),(141,0,262)]) (n au (n av (n aa (n bo (f ab) z) (f b7)) gL) (n ab (n aW (f aa) (f aa)) (n aa (f (cv P)) (f c0)))) (n aw (n aa gL (n ba (f (bH P)) (f aa))) (n aF (n aa (f bI) (f cw)) gL)))) (n (boot_o_6 P) (n (boot_o_10 P) (n aa (n aa (n aQ (n bi (f cx) z) (f b8)) (n ac (f b9) (f ca))) (n (aG P) (n aR (f ac) (f ab)) (n bj (f aa) (f cy)))) (n aH (n ab (n ac (f bx) (f cb)) (n a4 (f bJ) (f ab))) (n ax (n a5 (f bz) (f cc)) (n ac (f ab) (f cz))))) (n af (n aa (n aI (n aJ (n ac (f cA) z) (f cB)) (n bb (f bK) (f cC))) (n aK (n ac (f bL) (f cd)) (n bc (f cD) (f cE)))) (n ab (n ay (n aX (f bp) (f cF)) (n ac (f bM) (f cG))) (n ac (n aY (f ac) (f ce)) (n bq (f cf) (f cH)))))))
theorem _root_.PySem.W.Fast.te12838155480915937715:Fast.tw12838155480915937715=Fast.tw12838155480915937715:=rfl
noncomputable def _root_.PySem.W.Fast.tw16284100084814986612:Params→BT:=fun P=>n (boot_o_0 P) (n (boot_o_1 P) (n (gq P) (n (boot_o_7 P) (gS P) (n ab (n ah (n aM (f (bs P)) z) (f a6)) (n aa (n (a0 P) (f bB) z) (f be)))) (n aa (n aA (n ab (n aN (f bl) z) (f (a7 P))) (n aa (n aT (f (bC P)) z) (f bf))) (n ai (n aj (n (aU P) (f bt) z) (f a8)) (n aB (n a1 (f bE) z) (f (bm P)))))) (n (boot_o_5 P) (n (boot_o_9 P) (n ak (n al (n ab (f (bg P)) z) (f ad)) (n ac (n (aO P) (f ad) z) (f ab))) (n aa (n aa (n ad (f ab) z) (f (a2 P))) (n bu (n ab (f (bv P)) z) (f ad)))) (n ae (n am (n aa (n (aC P) (f ad) z) (f ab)) (n aD (n ad (f ab) z) (f (a9 P)))) (gV P)))) (n (boot_o_2 P) (n (boot_o_4 P) (n (boot_o_8 P) gW (n ap (n aq (n aP (f aa) z) (f aa)) (n (ar P) gI (f bh)))) (n (l3 [(1,0,20),(5,0,27),(13,0,32),(18,0,39),(23,0,46),(34,0,53),(36,0,66),(38,0,78),(40,0,90),(42,0,102),(44,0,114),(46,0,126),(48,0,138),(50,0,150)]) (n au (n av (n aa (f bo) z) (f aa)) (n ab (n aW (f aa) z) (f aa))) (n aw (n aa gI (f ba)) (n aF (n aa (f bI) z) (f aa))))) (n (boot_o_6 P) (n (boot_o_10 P) (n aa (n aa (n aQ (f bi) z) (f ac)) (n (aG P) (n aR (f ac) z) (f bj))) (n aH (n ab (n ac (f bx) z) (f a4)) (n ax (n a5 (f bz) z) (f ac)))) (n af (n aa (n aI (n aJ (f ac) z) (f bb)) (n aK (n ac (f bL) z) (f bc))) gZ)))
theorem _root_.PySem.W.Fast.te16284100084814986612:Fast.tw16284100084814986612=Fast.tw16284100084814986612:=rfl
noncomputable def _root_.PySem.W.Fast.tw3787276000881044052:Params→BT:=fun P=>n (boot_o_0 P) (n (boot_o_1 P) (n (gs P) (n (boot_o_7 P) (n aa (n az (f (aL P)) z) (f ag)) (n ab (n ah (f aM) z) (f aa))) (n aa (n aA (n ab (f aN) z) (f aa)) (n ai (f aj) (f aB)))) (n (boot_o_5 P) (n (boot_o_9 P) (n ak (n al (f ab) z) (f ac)) (n aa (f aa) (f (ty (cl (S "PatchError") [(w "ValueError")] [(r 57),(w "ValueError"),(w "Exception"),(w "BaseException"),(w "object")] 56 (S "PatchError") true [] [(r 70)] false none false) [(k (r 48)),none,(k (v "PatchError" 238)),(k (v "PatchError" 246)),(k (b "ValueError.__new__")),(k (vl true))])))) (n ae (n am (n aa (f (aC P)) z) (f aD)) (n aa (f aE) (f ad))))) (n (boot_o_2 P) (n (boot_o_4 P) (n (boot_o_8 P) (n ab (n an (f aa) z) (f ao)) (n ap (n aq (f aP) z) (f (ar P)))) (n (l3 [(1,0,20),(5,0,27),(13,0,32),(18,0,39),(23,0,46),(34,0,53),(36,0,66)]) (n au (n av (f aa) z) (f ab)) (n aw (f aa) (f aF)))) (n (boot_o_6 P) (n (boot_o_10 P) (n aa (n aa (f aQ) z) (f (aG P))) (n aH (f ab) (f ax))) (n af (n aa (n aI (f aJ) z) (f aK)) (n ab (f ay) (f ac)))))
theorem _root_.PySem.W.Fast.te3787276000881044052:Fast.tw3787276000881044052=Fast.tw3787276000881044052:=rfl
noncomputable def _root_.PySem.W.Fast.tw14626450754947442069:Params→BT:=fun P=>n (boot_o_0 P) (n (boot_o_1 P) (n (gv P) (n (boot_o_7 P) (n aa (n az (n (aL P) (f bk) z) (f aZ)) (n ag (f aS) (f (bd P)))) (n ab (n ah (f aM) (f a6)) (n aa (f (a0 P)) (f be)))) (n aa (gT P) (n ai (n aj (f (aU P)) (f a8)) (n aB (f a1) (f (bm P)))))) (n (boot_o_5 P) (n (boot_o_9 P) (gU P) (n aa (n aa (f ad) (f (a2 P))) (n (ty (cl (S "PatchError") [(w "ValueError")] [(r 57),(w "ValueError"),(w "Exception"),(w "BaseException"),(w "object")] 56 (S "PatchError") true [] [(r 70),(r 82),(r 94),(r 106),(r 118),(r 130)] false none false) [(k (r 48)),none,(k (v "PatchError" 238)),(k (v "PatchError" 246)),(k (b "ValueError.__new__")),(k (vl true))]) (f ab) (f ad)))) (n ae (g0 P) (n aa (n aE (f ab) (f ad)) (n ad (f (aV P)) (f ab)))))) (n (boot_o_2 P) (n (boot_o_4 P) (n (boot_o_8 P) (n ab (n an gI (f a3)) (n ao (f aa) (f aa))) (n ap (n aq (f aP) (f aa)) (n (ar P) (f aa) (f bh)))) (n (l3 [(1,0,20),(5,0,27),(13,0,32),(18,0,39),(23,0,46),(34,0,53),(36,0,66),(38,0,78),(40,0,90),(42,0,102),(44,0,114),(46,0,126)]) gX (n aw (n aa (f aa) (f ba)) (n aF (f aa) (f aa))))) (n (boot_o_6 P) (n (boot_o_10 P) (gY P) (n aH (n ab (f ac) (f a4)) (n ax (f a5) (f ac)))) (n af g1 (n ab (n ay (f aX) (f ac)) (n ac (f aY) (f bq))))))
theorem _root_.PySem.W.Fast.te14626450754947442069:Fast.tw14626450754947442069=Fast.tw14626450754947442069:=rfl
noncomputable def _root_.PySem.W.Fast.tw3078516881910694453:Params→BT:=fun P=>n (boot_o_0 P) (n (boot_o_1 P) (n (fQ P) (n (boot_o_7 P) (n aa (n az (n (aL P) (n bk (f aa) z) (n bN (f dk) z)) (n aZ (n (bO P) (f cI) z) (f aa))) (n ag (n aS (n br (f aa) z) (n bP (f ab) z)) (n (bd P) (n bA (f c7) z) (f cg)))) (n ab (n ah (n aM (n (bs P) (f ch) z) gI) (n a6 gI (f bQ))) (n aa (n (a0 P) (n bB (f ab) z) (n bR (f dA) z)) (n be (n ci (f c8) z) (f aa))))) (n aa (n aA (n ab (n aN (n bl (f aa) z) (n bS (f aa) z)) (n (a7 P) (n bT (f cJ) z) (f bU))) (n aa (n aT (n (bC P) (f c9) z) (n bV (f dl) z)) (n bf (n ac (f (cK P)) z) (f aa)))) (n ai (n aj (n (aU P) (n bt (f aa) z) (n bW (f dB) z)) (n a8 (n bD (f aa) z) (f cj))) (n aB (n a1 (n bE (f cL) z) (f aa)) (n (bm P) (n bX (f dm) z) (f ck)))))) (n (boot_o_5 P) (n (boot_o_9 P) (n ak (n al (n ab (n (bg P) (f cm) z) (n (bY P) (f ab) z)) (n ad (n bZ (f da) z) (f cn))) (n ac (n (aO P) (n ad (f cM) z) gI) (n ab (n b0 (f cN) z) (f ab)))) (n aa (n aa (n ad gJ (n cp (f dn) z)) (n (a2 P) (n bF (f cO) z) (f aa))) (n bu (n ab (n (bv P) (f aa) z) (n ab (f dp) z)) (n ad gI (f cP))))) (n ae (n am (n aa (n (aC P) (n ad (f cQ) z) (n cq (f dq) z)) (n ab gK (f ab))) (n aD (n ad (n ab (f cR) z) (n cr (f aa) z)) (n (a9 P) (n aa (f cS) z) (f cs)))) (n aa (n aE (n ab (n (bn P) (f db) z) (n ab (f dr) z)) (n ad (n bG (f cT) z) (f cU))) (n ad (n (aV P) gI (f b1)) (n ab (n ct (f dC) z) (f ab))))))) (n (boot_o_2 P) (n (boot_o_4 P) (n (boot_o_8 P) (n ab (n an (n aa (n aa (f cV) z) (n b2 (f aa) z)) (n a3 gI (f ab))) (n ao (n aa (n bw (f ab) z) (n b3 (f ds) z)) (n aa (n b4 (f cW) z) (f aa)))) (n ap (n aq (n aP gI gK) (n aa (n b5 (f dc) z) (f b6))) (n (ar P) (n aa (n aa (f cX) z) (n aa (f du) z)) (n bh (n cu (f df) z) (f ab))))) (n (l3 [(1,0,20),(5,0,27),(13,0,32),(18,0,39),(23,0,46),(34,0,53),(36,0,66),(38,0,78),(40,0,90),(42,0,102),(44,0,114),(46,0,126),(48,0,138),(50,0,150),(53,0,162),(60,0,183),(68,0,202),(74,0,207),(79,0,214),(88,0,221),(94,0,226),(101,0,231),(104,0,238),(114,0,245),(120,0,250),(136,0,257),(141,0,262),(156,0,269),(193,0,318),(199,0,325),(205,0,332),(210,0,339),(221,0,344)]) (n au (n av (n aa (n bo (f ab) z) (n b7 (f dD) z)) (n aa gI (f aa))) (n ab (n aW (n aa (f cY) z) (n aa (f dv) z)) (n aa (n (cv P) (f cZ) z) (f c0)))) (n aw (n aa (n aa (n aa (f dg) z) (n aa (f dw) z)) (n ba (n (bH P) (f ab) z) (f aa))) (n aF (n aa (n bI (f c1) z) (f cw)) (n aa gI (f aa)))))) (n (boot_o_6 P) (n (boot_o_10 P) (n aa (n aa (n aQ (n bi (f cx) z) (n b8 (f dx) z)) (n ac (n b9 (f c2) z) (f ca))) (n (aG P) (n aR (n ac (f aa) z) (n ab (f dE) z)) (n bj (n aa (f c3) z) (f cy)))) (n aH (n ab (n ac (n bx (f (dh P)) z) (n cb (f aa) z)) (n a4 (n bJ (f c4) z) (f ab))) (n ax (n a5 (n bz (f di) z) (f cc)) (n ac gK (f cz))))) (n af (n aa (n aI (n aJ (n ac (f cA) z) (n cB (f dy) z)) (n bb (n bK (f c5) z) (f cC))) (n aK (n ac (n bL (f aa) z) (n cd (f ab) z)) (n bc (n cD (f c6) z) (f cE)))) (n ab (n ay (n aX (n bp (f dj) z) (n cF (f aa) z)) (n ac (n bM (f aa) z) (f cG))) (n ac (n aY (n ac (f ab) z) (f ce)) (n bq (n cf (f dz) z) (f cH)))))))
theorem _root_.PySem.W.Fast.te3078516881910694453:Fast.tw3078516881910694453=Fast.tw3078516881910694453:=rfl
noncomputable def _root_.PySem.W.Fast.tw5126739714766112502:Params→BT:=fun P=>n (boot_o_0 P) (n (boot_o_1 P) (n (fQ P) (n (boot_o_7 P) (n aa (n az (n (aL P) (n bk (f aa) (f d9)) (n bN (f dk) z)) (n aZ (n (bO P) (f cI) (f aa)) (n aa (f ea) z))) (n ag (n aS (n br (f aa) (f aa)) (n bP (f ab) z)) (n (bd P) (n bA (f c7) z) (n cg (f aa) z)))) (n ab (n ah (n aM (n (bs P) (f ch) (f aa)) gI) (n a6 gL (n bQ (f dF) z))) (n aa (n (a0 P) (n bB (f ab) (f dG)) (n bR (f dA) z)) (n be (n ci (f c8) z) g2)))) (n aa (n aA (n ab (n aN (n bl (f aa) (f ab)) (n bS (f aa) z)) (n (a7 P) (n bT (f cJ) (f dH)) (n bU (f dI) z))) (n aa (n aT (n (bC P) (f c9) (f aa)) (n bV (f dl) z)) (n bf (n ac (f (cK P)) z) (n aa (f eb) z)))) (n ai (n aj (n (aU P) (n bt (f aa) (f dJ)) (n bW (f dB) z)) (n a8 (n bD (f aa) z) (n cj (f aa) z))) (n aB (n a1 (n bE (f cL) (f aa)) (n aa (f ac) z)) (n (bm P) (n bX (f dm) z) (n ck (f dK) z)))))) (n (boot_o_5 P) (n (boot_o_9 P) (n ak (n al (n ab (n (bg P) (f cm) (f dL)) (n (bY P) (f ab) z)) (n ad (n bZ (f da) (f ec)) (n cn (f aa) z))) (n ac (n (aO P) (n ad (f cM) (f dM)) gI) (n ab (n b0 (f cN) z) (n ab (f dN) z)))) (n aa (n aa (n ad (n ab (f ac) (f ed)) (n cp (f dn) z)) (n (a2 P) (n bF (f cO) (f dO)) g2)) (n bu (n ab (n (bv P) (f aa) (f ab)) (n ab (f dp) z)) (n ad gI (n cP (f aa) z))))) (n ae (n am (n aa (n (aC P) (n ad (f cQ) (f dP)) (n cq (f dq) z)) (n ab gM (n ab (f ee) z))) (n aD (n ad (n ab (f cR) (f ef)) (n cr (f aa) z)) (n (a9 P) (n aa (f cS) z) (n cs (f dQ) z)))) (n aa (n aE (n ab (n (bn P) (f db) (f ab)) (n ab (f dr) z)) (n ad (n bG (f cT) z) (n cU (f dR) z))) (n ad (n (aV P) (n aa (f aa) (f dS)) (n b1 (f aa) z)) (n ab (n ct (f dC) z) g3)))))) (n (boot_o_2 P) (n (boot_o_4 P) (n (boot_o_8 P) (n ab (n an (n aa (n aa (f cV) (f dT)) (n b2 (f aa) z)) (n a3 g4 (n ab (f eg) z))) (n ao (n aa (n bw (f ab) (f eh)) (n b3 (f ds) z)) (n aa (n b4 (f cW) z) g2))) (n ap (n aq (n aP g4 gK) (n aa (n b5 (f dc) (f ei)) (n b6 (f aa) z))) (n (ar P) (n aa (n aa (f cX) (f aa)) (n aa (f du) z)) (n bh (n cu (f df) z) (n ab (f dU) z))))) (n fR (n au (n av (n aa (n bo (f ab) (f ej)) (n b7 (f dD) z)) (n aa gL gI)) (n ab (n aW (n aa (f cY) (f ab)) (n aa (f dv) z)) (n aa (n (cv P) (f cZ) z) (n c0 (f dV) z)))) (n aw (n aa (n aa (n aa (f dg) (f aa)) (n aa (f dw) z)) (n ba (n (bH P) (f ab) z) (n aa (f ek) z))) (n aF (n aa (n bI (f c1) (f el)) (n cw (f (dt [(d P "__module__" 673 (v "patchkin.desk" 612)),(d P "__qualname__" 675 (v "Desk" 674)),(d P "__firstlineno__" 677 (vi 229 676)),(d P "__init__" 684 (r 359)),(d P "begin" 692 (r 366)),(d P "stores" 699 (r 373)),(d P "patches" 706 (r 380)),(d P "has" 712 (r 385)),(d P "record" 718 (r 390)),(d P "cut" 724 (r 395)),(d P "back" 734 (r 402)),(d P "take" 740 (r 407)),(d P "drop" 750 (r 414)),(d P "leans" 756 (r 419))] 14)) z)) (n aa gI (n aa (f dW) z)))))) (n (boot_o_6 P) (n (boot_o_10 P) (n aa (n aa (n aQ (n bi (f cx) (f aa)) (n b8 (f dx) z)) (n ac (n b9 (f c2) (f dX)) (n ca (f ab) z))) (n (aG P) (n aR (n ac (f aa) (f dY)) (n ab (f dE) z)) (n bj (n aa (f c3) z) (n cy (f aa) z)))) (n aH (n ab (n ac (n bx (f (dh P)) (f dZ)) (n cb (f aa) z)) (n a4 (n bJ (f c4) z) (n ab (f d0) z))) (n ax (n a5 (n bz (f di) (f d1)) (n cc (f aa) z)) (n ac gK (n cz (f em) z))))) (n af (n aa (n aI (n aJ (n ac (f cA) (f d2)) (n cB (f dy) z)) (n bb (n bK (f c5) (f d3)) (n cC (f d4) z))) (n aK (n ac (n bL (f aa) (f d5)) (n cd (f ab) z)) (n bc (n cD (f c6) z) (n cE (f aa) z)))) (n ab (n ay (n aX (n bp (f dj) (f d6)) (n cF (f aa) z)) (n ac (n bM (f aa) z) (n cG (f d7) z))) (n ac (n aY (n ac (f ab) (f d8)) (n ce (f (l3 [(231,4,358),(236,4,365),(242,4,372),(245,4,379),(248,4,384),(252,4,389),(262,4,394),(271,4,401),(277,4,406),(287,4,413),(295,4,418),(299,4,425)])) z)) (n bq (n cf (f dz) z) (n cH (f ab) z)))))))
theorem _root_.PySem.W.Fast.te5126739714766112502:Fast.tw5126739714766112502=Fast.tw5126739714766112502:=rfl
noncomputable def _root_.PySem.W.Fast.tw10594899606392926007:Params→BT:=fun P=>n (boot_o_0 P) (n (boot_o_1 P) (n (eY P) (n (boot_o_7 P) (n aa (n az (n (aL P) (n bk (n aa (f fS) z) (f d9)) (n bN (n dk (f ab) z) (f ab))) (n aZ (n (bO P) (n cI (f eZ) z) (f aa)) (n aa (f ea) (f aa)))) (n ag (n aS (n br (n aa (f e0) z) (f aa)) (n bP (f ab) (f en))) (n (bd P) (n bA (n c7 (f fT) z) (f e1)) (n cg (f aa) (f eo))))) (n ab (n ah (n aM (n (bs P) (n ch (f e2) z) (f aa)) (n aa (n aa (f (fv "law" "law" (x 53))) z) (f e3))) (n a6 (n aa g2 (f aa)) (n bQ (f dF) (f ab)))) (n aa (n (a0 P) (n bB (n ab (f e4) z) (f dG)) (n bR (f dA) (f ep))) (n be (n ci (n c8 (f aa) z) (f aa)) (n aa (f ab) (f eq)))))) (n aa (n aA (n ab (n aN (n bl g2 (f ab)) (n bS (n aa (f e5) z) (f er))) (n (a7 P) (n bT (n cJ (f fV) z) (f dH)) (n bU (f dI) (f e6)))) (n aa (n aT (n (bC P) (n c9 (f e7) z) (f aa)) (n bV (f dl) (f es))) (n bf (n ac (n (cK P) (f ab) z) (f ab)) (n aa (f eb) (f et))))) (n ai (n aj (n (aU P) (n bt (n aa (f e8) z) (f dJ)) (n bW (f dB) (f ab))) (n a8 (n bD gI (f aa)) (n cj (f aa) (f eu)))) (n aB (n a1 (n bE (n cL (f e9) z) (f aa)) (n aa (f ac) (f aa))) (n (bm P) (n bX (n dm (f fW) z) (f fa)) (n ck (f dK) (f aa))))))) (n (boot_o_5 P) (n (boot_o_9 P) (n ak (n al (n ab (n (bg P) (n cm (f fb) z) (f dL)) (n (bY P) g3 (f aa))) (n ad (n bZ (n da (f aa) z) (f ec)) (n cn (f aa) (f ev)))) (n ac (n (aO P) (n ad (n cM (f ab) z) (f dM)) gL) (n ab (n b0 (n cN (f fc) z) (f ew)) (n ab (f dN) (f fe))))) (n aa (n aa (n ad (n ab (n ac (f aa) z) (f ed)) (n cp (n dn (f ff) z) (f ex))) (n (a2 P) (n bF (n cO (f fg) z) (f dO)) g5)) (n bu (n ab (n (bv P) (n aa (f fX) z) (f ab)) (n ab (f dp) (f ab))) (n ad (n aa (n aa (f fh) z) (f ey)) (n cP (f aa) (f fi)))))) (n ae (n am (n aa (n (aC P) (n ad (n cQ (f aa) z) (f dP)) (n cq (n dq (f aa) z) (f aa))) (n ab (n ab (n ab (f fj) z) (f ab)) (n ab (f ee) (f ez)))) (n aD (n ad (n ab (n cR (f aa) z) (f ef)) (n cr (f aa) (f fk))) (n (a9 P) (n aa (n cS (f fm) z) (f eA)) (n cs (f dQ) (f (eB P)))))) (n aa (n aE (n ab (n (bn P) (n db (f fY) z) (f ab)) (n ab (f dr) (f aa))) (n ad (n bG (n cT (f fo) z) (f eC)) (n cU (f dR) (f aa)))) (n ad (n (aV P) (n aa g2 (f dS)) (n b1 (f aa) (f eD))) (n ab (n ct (n dC (f fp) z) (f eE)) (n ab (f aa) (f fq)))))))) (n (boot_o_2 P) (n (boot_o_4 P) (n (boot_o_8 P) (n ab (n an (n aa (n aa (n cV (f fs) z) (f dT)) (n b2 (n aa (f ft) z) (f eF))) (n a3 (n aa (n aa (f fu) z) (f ab)) (n ab (f eg) (f ab)))) (n ao (n aa (n bw g3 (f eh)) (n b3 (f ds) (f eG))) (n aa (n b4 (n cW (f fw) z) (f eH)) g5))) (n ap (n aq (n aP (n aa (n aa (f fx) z) (f ab)) (n ab (n ab (f fy) z) (f eI))) (n aa (n b5 (n dc (f fZ) z) (f ei)) (n b6 (f aa) (f eJ)))) (n (ar P) (n aa (n aa (n cX (f aa) z) (f aa)) (n aa (f du) (f aa))) (n bh (n cu (n df (f ab) z) (f ab)) (n ab (f dU) (f eK)))))) (n f0 (n au (n av (n aa (n bo (n ab (f fz) z) (f ej)) (n b7 (n dD (f fA) z) (f eL))) (n aa (n aa (n aa (f fB) z) (f aa)) (n aa (f aa) (f eM)))) (n ab (n aW (n aa (n cY (f fC) z) (f ab)) (n aa (f dv) (f aa))) (n aa (n (cv P) (n cZ (f f1) z) (f fD)) (n c0 (f dV) (f eN))))) (n aw (n aa (n aa (n aa (n dg (f aa) z) (f aa)) (n aa (f dw) (f eO))) (n ba (n (bH P) gK (f ab)) (n aa (f ek) (f eP)))) (n aF (n aa (n bI (n c1 (f aa) z) (f el)) (n cw (f (fE P)) (f fF))) (n aa (n aa (n aa (f fG) z) (f eQ)) (n aa (f dW) (f ab))))))) (n (boot_o_6 P) (n (boot_o_10 P) (n aa (n aa (n aQ (n bi (n cx (f aa) z) (f aa)) (n b8 (n dx (f f2) z) (f fH))) (n ac (n b9 (n c2 (f ab) z) (f dX)) (n ca (f ab) (f aa)))) (n (aG P) (n aR (n ac (n aa (f f3) z) (f dY)) (n ab (f dE) (f ab))) (n bj (n aa (n c3 (f aa) z) (f aa)) (n cy (f aa) (f eR))))) (n aH (n ab (n ac (n bx (n (dh P) (f ab) z) (f dZ)) (n cb (f aa) (f aa))) (n a4 (n bJ (n c4 (f fI) z) (f eS)) (n ab (f d0) (f fJ)))) (n ax (n a5 (n bz (n di (f fK) z) (f d1)) (n cc (f aa) (f eT))) (n ac (n ab g3 (f aa)) (n cz (f em) (f fL)))))) (n af (n aa (n aI (n aJ (n ac (n cA (f f4) z) (f d2)) (n cB (n dy (f ab) z) (f ab))) (n bb (n bK (n c5 (f aa) z) (f d3)) (n cC (f d4) (f aa)))) (n aK (n ac (n bL g2 (f d5)) (n cd (f ab) (f eU))) (n bc (n cD (n c6 (f fM) z) (f eV)) (n cE (f aa) (f eW))))) (n ab (n ay (n aX (n bp (n dj (f fN) z) (f d6)) (n cF (f aa) (f fO))) (n ac (n bM gI (f aa)) (n cG (f d7) (f ab)))) (n ac (n aY (n ac (n ab (f f5) z) (f d8)) (n ce (f fP) (f eX))) (n bq (n cf (n dz (f aa) z) (f aa)) (n cH (f ab) (f aa))))))))
theorem _root_.PySem.W.Fast.te10594899606392926007:Fast.tw10594899606392926007=Fast.tw10594899606392926007:=rfl
noncomputable def _root_.PySem.W.Fast.tw8255852015347939704:Params→BT:=fun P=>n (boot_o_0 P) (n (boot_o_1 P) (n (boot_o_3 P) (f (boot_o_7 P)) (f aa)) (n (boot_o_5 P) (f (boot_o_9 P)) (f ae))) (n (boot_o_2 P) (n (boot_o_4 P) (f (boot_o_8 P)) (f ab)) (n (boot_o_6 P) (f (boot_o_10 P)) (f af)))
theorem _root_.PySem.W.Fast.te8255852015347939704:Fast.tw8255852015347939704=Fast.tw8255852015347939704:=rfl
noncomputable def _root_.PySem.W.Fast.tw15053873379747398329:Params→BT:=fun P=>n (boot_o_0 P) (n (boot_o_1 P) (n (gB P) (n (boot_o_7 P) (n aa (n az (n (aL P) (n bk (f aa) (f d9)) (n bN (f dk) (f ab))) (n aZ (n (bO P) (f cI) (f aa)) (n aa (f ea) (f aa)))) (n ag (n aS (n br (f aa) (f aa)) (n bP (f ab) (f en))) (n (bd P) (n bA (f c7) (f e1)) (n cg (f aa) (f eo))))) (n ab (n ah (n aM (n (bs P) (f ch) (f aa)) (n aa (f aa) (f e3))) (n a6 gL (n bQ (f dF) (f ab)))) (n aa (n (a0 P) (n bB (f ab) (f dG)) (n bR (f dA) (f ep))) (n be (n ci (f c8) (f aa)) (n aa (f ab) (f eq)))))) (n aa (n aA (n ab (n aN (n bl (f aa) (f ab)) (n bS (f aa) (f er))) (n (a7 P) (n bT (f cJ) (f dH)) (n bU (f dI) (f e6)))) (n aa (n aT (n (bC P) (f c9) (f aa)) (n bV (f dl) (f es))) (n bf (n ac (f (cK P)) (f ab)) (n aa (f eb) (f et))))) (n ai (n aj (n (aU P) (n bt (f aa) (f dJ)) (n bW (f dB) (f ab))) (n a8 (n bD (f aa) (f aa)) (n cj (f aa) (f eu)))) (n aB (n a1 (n bE (f cL) (f aa)) (n aa (f ac) (f aa))) (n (bm P) (n bX (f dm) (f fa)) (n ck (f dK) z)))))) (n (boot_o_5 P) (n (boot_o_9 P) (n ak (n al (n ab (n (bg P) (f cm) (f dL)) (n (bY P) (f ab) (f aa))) (n ad (n bZ (f da) (f ec)) (n cn (f aa) (f ev)))) (n ac (n (aO P) (n ad (f cM) (f dM)) gL) (n ab (n b0 (f cN) (f ew)) (n ab (f dN) (f fe))))) (n aa (n aa (n ad (n ab (f ac) (f ed)) (n cp (f dn) (f ex))) (n (a2 P) (n bF (f cO) (f dO)) g5)) (n bu (n ab (n (bv P) (f aa) (f ab)) (n ab (f dp) (f ab))) (n ad (n aa (f aa) (f ey)) (n cP (f aa) (f fi)))))) (n ae (n am (n aa (n (aC P) (n ad (f cQ) (f dP)) (n cq (f dq) (f aa))) (n ab gM (n ab (f ee) (f ez)))) (n aD (n ad (n ab (f cR) (f ef)) (n cr (f aa) (f fk))) (n (a9 P) (n aa (f cS) (f eA)) (n cs (f dQ) (f (eB P)))))) (n aa (n aE (n ab (n (bn P) (f db) (f ab)) (n ab (f dr) (f aa))) (n ad (n bG (f cT) (f eC)) (n cU (f dR) (f aa)))) (n ad (n (aV P) (n aa (f aa) (f dS)) (n b1 (f aa) (f eD))) (n ab (n ct (f dC) (f eE)) g3)))))) (n (boot_o_2 P) (n (boot_o_4 P) (n (boot_o_8 P) (n ab (n an (n aa (n aa (f cV) (f dT)) (n b2 (f aa) (f eF))) (n a3 g4 (n ab (f eg) (f ab)))) (n ao (n aa (n bw (f ab) (f eh)) (n b3 (f ds) (f eG))) (n aa (n b4 (f cW) (f eH)) g5))) (n ap (n aq (n aP g4 (n ab (f ab) (f eI))) (n aa (n b5 (f dc) (f ei)) (n b6 (f aa) (f eJ)))) (n (ar P) (n aa (n aa (f cX) (f aa)) (n aa (f du) (f aa))) (n bh (n cu (f df) (f ab)) (n ab (f dU) (f eK)))))) (n fR (n au (n av (n aa (n bo (f ab) (f ej)) (n b7 (f dD) (f eL))) (n aa gL (n aa (f aa) (f eM)))) (n ab (n aW (n aa (f cY) (f ab)) (n aa (f dv) (f aa))) (n aa (n (cv P) (f cZ) (f fD)) (n c0 (f dV) (f eN))))) (n aw (n aa (n aa (n aa (f dg) (f aa)) (n aa (f dw) (f eO))) (n ba (n (bH P) (f ab) (f ab)) (n aa (f ek) (f eP)))) (n aF (n aa (n bI (f c1) (f el)) (n cw (f (fE P)) (f fF))) (n aa (n aa (f aa) (f eQ)) (n aa (f dW) z)))))) (n (boot_o_6 P) (n (boot_o_10 P) (n aa (n aa (n aQ (n bi (f cx) (f aa)) (n b8 (f dx) (f fH))) (n ac (n b9 (f c2) (f dX)) (n ca (f ab) (f aa)))) (n (aG P) (n aR (n ac (f aa) (f dY)) (n ab (f dE) (f ab))) (n bj (n aa (f c3) (f aa)) (n cy (f aa) (f eR))))) (n aH (n ab (n ac (n bx (f (dh P)) (f dZ)) (n cb (f aa) (f aa))) (n a4 (n bJ (f c4) (f eS)) (n ab (f d0) (f fJ)))) (n ax (n a5 (n bz (f di) (f d1)) (n cc (f aa) (f eT))) (n ac (n ab (f ab) (f aa)) (n cz (f em) (f fL)))))) (n af (n aa (n aI (n aJ (n ac (f cA) (f d2)) (n cB (f dy) (f ab))) (n bb (n bK (f c5) (f d3)) (n cC (f d4) (f aa)))) (n aK (n ac (n bL (f aa) (f d5)) (n cd (f ab) (f eU))) (n bc (n cD (f c6) (f eV)) (n cE (f aa) (f eW))))) (n ab (n ay (n aX (n bp (f dj) (f d6)) (n cF (f aa) (f fO))) (n ac (n bM (f aa) (f aa)) (n cG (f d7) (f ab)))) (n ac (n aY (n ac (f ab) (f d8)) (n ce (f fP) (f eX))) (n bq (n cf (f dz) (f aa)) (n cH (f ab) z)))))))
theorem _root_.PySem.W.Fast.te15053873379747398329:Fast.tw15053873379747398329=Fast.tw15053873379747398329:=rfl
noncomputable def _root_.PySem.W.Fast.tw10387029024873096285:Params→BT:=fun P=>n (boot_o_0 P) (n (boot_o_1 P) (n (gC P) (n (boot_o_7 P) (n aa (n az (f (aL P)) (f aZ)) (n ag (f aS) (f (bd P)))) (n ab (n ah (f aM) (f a6)) (n aa (f (a0 P)) (f be)))) (n aa (n aA (n ab (f aN) (f (a7 P))) (n aa (f aT) (f bf))) (n ai (n aj (f (aU P)) (f a8)) (n aB (f a1) z)))) (n (boot_o_5 P) (n (boot_o_9 P) (n ak (n al (f ab) (f ad)) (n ac (f (aO P)) (f ab))) (n aa (n aa (f ad) (f (a2 P))) (n (ty (cl (S "PatchError") [(w "ValueError")] [(r 57),(w "ValueError"),(w "Exception"),(w "BaseException"),(w "object")] 56 (S "PatchError") true [] [(r 70),(r 82),(r 94),(r 106),(r 118)] false none false) [(k (r 48)),none,(k (v "PatchError" 238)),(k (v "PatchError" 246)),(k (b "ValueError.__new__")),(k (vl true))]) (f ab) z))) (n ae (g0 P) (n aa (n aE (f ab) (f ad)) (n ad (f (aV P)) z))))) (n (boot_o_2 P) (n (boot_o_4 P) (n (boot_o_8 P) (n ab (n an (f aa) (f a3)) (n ao (f aa) (f aa))) (n ap (n aq (f aP) (f aa)) (n (ar P) (f aa) (f bh)))) (n (l3 [(1,0,20),(5,0,27),(13,0,32),(18,0,39),(23,0,46),(34,0,53),(36,0,66),(38,0,78),(40,0,90),(42,0,102),(44,0,114)]) (n au (n av (f aa) (f aa)) (n ab (f aW) (f aa))) g6)) (n (boot_o_6 P) (n (boot_o_10 P) (n aa (n aa (f aQ) (f ac)) (n (aG P) (f aR) (f bj))) g7) (n af g1 (n ab (n ay (f aX) (f ac)) (n ac (f aY) z)))))
theorem _root_.PySem.W.Fast.te10387029024873096285:Fast.tw10387029024873096285=Fast.tw10387029024873096285:=rfl
noncomputable def _root_.PySem.W.Fast.tw11533358001140404703:Params→BT:=fun P=>n (boot_o_0 P) (n (boot_o_1 P) (n (gF P) (n (boot_o_7 P) (n aa (n az (f (aL P)) (f aZ)) (n ag (f aS) z)) (n ab (n ah (f aM) (f a6)) (n aa (f (a0 P)) z))) (n aa (n aA (n ab (f aN) (f (a7 P))) (n aa (f aT) z)) (n ai (n aj (f (aU P)) (f a8)) (n aB (f a1) z)))) (n (boot_o_5 P) (n (boot_o_9 P) (n ak (n al (f ab) (f ad)) (n ac (f (aO P)) z)) (n aa (n aa (f ad) (f (a2 P))) (n (ty (cl (S "PatchError") [(w "ValueError")] [(r 57),(w "ValueError"),(w "Exception"),(w "BaseException"),(w "object")] 56 (S "PatchError") true [] [(r 70),(r 82),(r 94),(r 106)] false none false) [(k (r 48)),none,(k (v "PatchError" 238)),(k (v "PatchError" 246)),(k (b "ValueError.__new__")),(k (vl true))]) (f ab) z))) (n ae (n am (n aa (f (aC P)) (f ab)) (n aD (f ad) z)) (n aa (n aE (f ab) z) (n ad (f (aV P)) z))))) (n (boot_o_2 P) (n (boot_o_4 P) (n (boot_o_8 P) gP (n ap (n aq (f aP) (f aa)) (n (ar P) (f aa) z))) (n (l3 [(1,0,20),(5,0,27),(13,0,32),(18,0,39),(23,0,46),(34,0,53),(36,0,66),(38,0,78),(40,0,90),(42,0,102)]) (n au (n av (f aa) (f aa)) (n ab (f aW) z)) g6)) (n (boot_o_6 P) (n (boot_o_10 P) (n aa (n aa (f aQ) (f ac)) (n (aG P) (f aR) z)) g7) (n af (n aa (n aI (f aJ) (f bb)) (n aK (f ac) z)) gR)))
theorem _root_.PySem.W.Fast.te11533358001140404703:Fast.tw11533358001140404703=Fast.tw11533358001140404703:=rfl
noncomputable def _root_.PySem.W.Fast.tw11454204216134045898:Params→Heap:=fun P=>Heap.mk #[boot_o_0 P,boot_o_1 P,boot_o_2 P,boot_o_3 P,boot_o_4 P,boot_o_5 P,boot_o_6 P,boot_o_7 P,boot_o_8 P,boot_o_9 P,boot_o_10 P,aa,ab,ae,af] (Life.mk [] [] [] 0 [] [] false #[] [] 0 false false false 0 [2000,10,10] false 0 true [] [] 0 false)
theorem _root_.PySem.W.Fast.te11454204216134045898:Fast.tw11454204216134045898=Fast.tw11454204216134045898:=rfl
noncomputable def _root_.PySem.W.Fast.tw2479833258337135156:Params→Heap:=fun P=>Heap.mk #[boot_o_0 P,boot_o_1 P,boot_o_2 P,eY P,boot_o_4 P,boot_o_5 P,boot_o_6 P,boot_o_7 P,boot_o_8 P,boot_o_9 P,boot_o_10 P,aa,f0,ae,af,aa,ab,ak,aa,aA,au,am,aa,ab,ap,aa,aH,ai,aw,aa,ab,az,an,al,aa,ab,av,aa,aI,ah,aq,aa,ab,aj,aa,aE,ay,ag,ao,ac,aG P,aa,ab,aD,aK,aa,ar P,bu,ax,aB,aF,ad,ac,aL P,aa,ab,aQ,aN,aa,aC P,aJ,aM,aP,ad,ac,aU P,aa,ab,aX,aS,aa,aO P,aR,aT,aW,ad,ac,a0 P,aa,ab,a5,a1,aa,aV P,aY,aZ,a3,ad,ac,a7 P,aa,ab,bb,a6,aa,a2 P,a4,a8,ba,ad,ac,bd P,aa,ab,bj,bf,aa,a9 P,bc,be,bh,ad,ac,bm P,aa,ab,bq,bk,aa,bg P,bi,bl,bo,ad,ac,bs P,aa,ab,bx,bt,aa,bn P,bp,br,bw,ad,ac,bC P,aa,ab,bL,bB,aa,bv P,bz,bE,bI,aa,ac,bO P,aa,bZ,b9,bT,aa,ab,bK,aa,b5,bF,bJ,bD,bH P,bG,bM,bA,b4,b0,aa,ac,cv P,aa,cD,ci,cu,aa,ab,bX,aa,ct,cf,bN,b2,bY P,b8,bS,b7,cq,cB,aa,ab,cp,cb,bW,aa,ab,cF,bP,b3,aa,ab,bV,aa,cr,cd,bR,aa,ab,cc,aa,cw,b1,ce,aa,ab,cn,ca,bU,aa,ab,cC,bQ,b6,aa,ab,cj,aa,cU,cG,cg,aa,ab,cy,aa,c0,cs,cE,aa,ab,cP,cz,ck,aa,ab,cH,aa,cV,cm,cx,aa,ab,cQ,cA,ch,aa,ac,dh P,aa,dg,db,dj,aa,ab,cM,aa,c9,cY,cR,aa,ab,cX,aa,di,cL,c1,aa,ab,cI,aa,da,c2,cJ,aa,ab,c5,aa,dc,cO,c4,aa,ab,cT,aa,c7,cW,cN,c3,cK P,cZ,cS,c6,c8,df,aa,ab,dm,aa,dC,dz,dk,aa,ab,dx,aa,dD,dq,dy,aa,ab,dn,aa,dB,dw,dr,aa,ab,ds,aa,dE,dl,dv,aa,ab,dA,du,dp,aa,ac,fE P,aa,fP,ea,eg,aa,ab,dI,aa,ee,d4,dF,aa,ab,d0,aa,ek,dR,d7,aa,ab,dN,aa,eb,dV,dQ,aa,ab,dU,aa,em,dK,dW,aa,ab,d9,dT,dL,aa,ab,ej,dP,d2,aa,ab,ed,dZ,dJ,aa,ab,d6,aa,eh,dM,dY,aa,ab,ef,d5,dG,aa,ab,d1,aa,el,dS,d8,aa,ab,ec,dX,dH,aa,ab,d3,aa,ei,dO,eS,aa,ab,eC,aa,e1,eH,ew,aa,ab,fD,eA,eV,aa,ab,ey,aa,fa,eQ,eE,aa,ab,eF,aa,fH,er,eL,aa,ab,e3,eI,ex,aa,ab,eO,aa,fO,en,eG,aa,ab,es,aa,fk,eU,ep,aa,ab,eT,aa,fF,eD,eX,aa,ab,ev,aa,e6,eM,ez,aa,ab,eJ,aa,fJ,eu,eP,aa,ab,eo,aa,fe,eR,et,eN,eB P,eW,eq,eK,fi,fL,aa,ab,fq,aa,fS,fs,fb,aa,ab,fz,aa,f4,e2,fx,aa,ab,e8,aa,fY,fN,e0,aa,ab,f3,e7,fC,aa,ab,e4,aa,fX,fK,e9,aa,ab,f5,eZ,fu,aa,ab,fV,fB,fj,aa,ab,fZ,fg,fI,aa,ab,fo,aa,fT,fw,fc,aa,ab,f1,fm,fM,aa,ab,fh,aa,fW,fG,fp,aa,ab,ft,aa,f2,e5,fA,aa,ab,fv "law" "law" (x 53),fy,ff] (Life.mk [] [] [] 0 [] [] false #[] [] 0 false false false 0 [2000,10,10] false 0 true [] [] 0 false)
theorem _root_.PySem.W.Fast.te2479833258337135156:Fast.tw2479833258337135156=Fast.tw2479833258337135156:=rfl
noncomputable def _root_.PySem.W.Fast.tw3489812307246839298:Params→Frag:=fun P=>[(2,boot_o_2 P),(3,eY P),(15,aa),(17,ak),(18,aa),(20,au),(21,am),(22,aa),(24,ap),(25,aa),(27,ai),(28,aw),(29,aa),(32,an),(33,al),(34,aa),(36,av),(37,aa),(39,ah),(40,aq),(41,aa),(43,aj),(44,aa),(46,ay),(47,ag),(48,ao),(55,aa),(56,ar P),(57,bu),(58,ax),(61,ad),(68,aa),(69,aC P),(70,aJ),(73,ad),(80,aa),(81,aO P),(82,aR),(85,ad),(92,aa),(93,aV P),(94,aY),(97,ad),(104,aa),(105,a2 P),(106,a4),(109,ad),(116,aa),(117,a9 P),(118,bc),(121,ad),(128,aa),(129,bg P),(130,bi),(133,ad),(140,aa),(141,bn P),(142,bp),(145,ad),(152,aa),(153,bv P),(154,bz),(164,aa),(166,bK),(167,aa),(169,bF),(170,bJ),(171,bD),(172,bH P),(173,bG),(174,bM),(175,bA),(185,aa),(187,bX),(188,aa),(190,cf),(191,bN),(192,b2),(193,bY P),(194,b8),(195,bS),(196,b7),(199,aa),(202,cb),(203,bW),(204,aa),(207,bP),(208,b3),(209,aa),(211,bV),(212,aa),(214,cd),(215,bR),(216,aa),(218,cc),(219,aa),(221,b1),(222,ce),(223,aa),(226,ca),(227,bU),(228,aa),(231,bQ),(232,b6),(233,aa),(235,cj),(236,aa),(238,cG),(239,cg),(240,aa),(242,cy),(243,aa),(245,cs),(246,cE),(247,aa),(250,cz),(251,ck),(252,aa),(254,cH),(255,aa),(257,cm),(258,cx),(259,aa),(262,cA),(263,ch),(271,aa),(273,cM),(274,aa),(276,cY),(277,cR),(278,aa),(280,cX),(281,aa),(283,cL),(284,c1),(285,aa),(287,cI),(288,aa),(290,c2),(291,cJ),(292,aa),(294,c5),(295,aa),(297,cO),(298,c4),(299,aa),(301,cT),(302,aa),(304,cW),(305,cN),(306,c3),(307,cK P),(308,cZ),(309,cS),(310,c6),(313,aa),(315,dm),(316,aa),(318,dz),(319,dk),(320,aa),(322,dx),(323,aa),(325,dq),(326,dy),(327,aa),(329,dn),(330,aa),(332,dw),(333,dr),(334,aa),(336,ds),(337,aa),(339,dl),(340,dv),(341,aa),(344,du),(345,dp),(353,aa),(355,dI),(356,aa),(358,d4),(359,dF),(360,aa),(362,d0),(363,aa),(365,dR),(366,d7),(367,aa),(369,dN),(370,aa),(372,dV),(373,dQ),(374,aa),(376,dU),(377,aa),(379,dK),(380,dW),(381,aa),(384,dT),(385,dL),(386,aa),(389,dP),(390,d2),(391,aa),(394,dZ),(395,dJ),(396,aa),(398,d6),(399,aa),(401,dM),(402,dY),(403,aa),(406,d5),(407,dG),(408,aa),(410,d1),(411,aa),(413,dS),(414,d8),(415,aa),(418,dX),(419,dH),(420,aa),(422,d3),(423,aa),(425,dO),(426,eS),(427,aa),(429,eC),(430,aa),(432,eH),(433,ew),(434,aa),(437,eA),(438,eV),(439,aa),(441,ey),(442,aa),(444,eQ),(445,eE),(446,aa),(448,eF),(449,aa),(451,er),(452,eL),(453,aa),(456,eI),(457,ex),(458,aa),(460,eO),(461,aa),(463,en),(464,eG),(465,aa),(467,es),(468,aa),(470,eU),(471,ep),(472,aa),(474,eT),(475,aa),(477,eD),(478,eX),(479,aa),(481,ev),(482,aa),(484,eM),(485,ez),(486,aa),(488,eJ),(489,aa),(491,eu),(492,eP),(493,aa),(495,eo),(496,aa),(498,eR),(499,et),(500,eN),(501,eB P),(502,eW),(503,eq),(504,eK),(507,aa),(509,fq),(510,aa),(512,fs),(513,fb),(514,aa),(516,fz),(517,aa),(519,e2),(520,fx),(521,aa),(523,e8),(524,aa),(526,fN),(527,e0),(528,aa),(531,e7),(532,fC),(533,aa),(535,e4),(536,aa),(538,fK),(539,e9),(540,aa),(543,eZ),(544,fu),(545,aa),(548,fB),(549,fj),(550,aa),(553,fg),(554,fI),(555,aa),(557,fo),(558,aa),(560,fw),(561,fc),(562,aa),(565,fm),(566,fM),(567,aa),(569,fh),(570,aa),(572,fG),(573,fp),(574,aa),(576,ft),(577,aa),(579,e5),(580,fA),(581,aa),(584,fy),(585,ff)]
theorem _root_.PySem.W.Fast.te3489812307246839298:Fast.tw3489812307246839298=Fast.tw3489812307246839298:=rfl
noncomputable def _root_.PySem.W.Fast.tw7615394199607707840:List Stmt:=[x 25,x 26,x 27,x 28,x 29]
theorem _root_.PySem.W.Fast.te7615394199607707840:Fast.tw7615394199607707840=Fast.tw7615394199607707840:=rfl
noncomputable def _root_.PySem.W.Fast.tw5971957139536462146:List Stmt:=[x 11]
theorem _root_.PySem.W.Fast.te5971957139536462146:Fast.tw5971957139536462146=Fast.tw5971957139536462146:=rfl
noncomputable def _root_.PySem.W.Fast.tw7665817103217478116:List Stmt:=[x 34,x 35,x 36,x 37,x 38]
theorem _root_.PySem.W.Fast.te7665817103217478116:Fast.tw7665817103217478116=Fast.tw7665817103217478116:=rfl
noncomputable def _root_.PySem.W.Fast.tw13076079671821554053:List Stmt:=[x 13]
theorem _root_.PySem.W.Fast.te13076079671821554053:Fast.tw13076079671821554053=Fast.tw13076079671821554053:=rfl
noncomputable def _root_.PySem.W.Fast.tw10857150852278002597:List Stmt:=[x 39]
theorem _root_.PySem.W.Fast.te10857150852278002597:Fast.tw10857150852278002597=Fast.tw10857150852278002597:=rfl
noncomputable def _root_.PySem.W.Fast.tw17794393406808144743:List Stmt:=[x 9]
theorem _root_.PySem.W.Fast.te17794393406808144743:Fast.tw17794393406808144743=Fast.tw17794393406808144743:=rfl
noncomputable def _root_.PySem.W.Fast.tw8144691571327538857:List Stmt:=[x 18,x 19,x 20,x 21,x 22,x 23,x 24]
theorem _root_.PySem.W.Fast.te8144691571327538857:Fast.tw8144691571327538857=Fast.tw8144691571327538857:=rfl
noncomputable def _root_.PySem.W.Fast.tw9826951140098682091:List Stmt:=[x 0,x 1,x 2,x 3,x 4,x 5,x 6,x 7]
theorem _root_.PySem.W.Fast.te9826951140098682091:Fast.tw9826951140098682091=Fast.tw9826951140098682091:=rfl
noncomputable def _root_.PySem.W.Fast.tw5511573484246323915:List Stmt:=[x 30,x 31,x 32,x 33]
theorem _root_.PySem.W.Fast.te5511573484246323915:Fast.tw5511573484246323915=Fast.tw5511573484246323915:=rfl
noncomputable def _root_.PySem.W.Fast.tw6164228718307182861:List Stmt:=[x 40,x 41,x 42,x 43,x 44,x 45,x 46,x 47,x 48,x 49,x 50,x 51,x 52,x 53]
theorem _root_.PySem.W.Fast.te6164228718307182861:Fast.tw6164228718307182861=Fast.tw6164228718307182861:=rfl
noncomputable def _root_.PySem.W.Fast.tw12403288056046037492:List Stmt:=[x 8]
theorem _root_.PySem.W.Fast.te12403288056046037492:Fast.tw12403288056046037492=Fast.tw12403288056046037492:=rfl
noncomputable def _root_.PySem.W.Fast.tw1333303111565678646:List Stmt:=[x 15,x 16]
theorem _root_.PySem.W.Fast.te1333303111565678646:Fast.tw1333303111565678646=Fast.tw1333303111565678646:=rfl
noncomputable def _root_.PySem.W.Fast.tw3299704457408441241:List Stmt:=[x 17]
theorem _root_.PySem.W.Fast.te3299704457408441241:Fast.tw3299704457408441241=Fast.tw3299704457408441241:=rfl
noncomputable def _root_.PySem.W.Fast.tw10851572027233731709:List Stmt:=[x 12]
theorem _root_.PySem.W.Fast.te10851572027233731709:Fast.tw10851572027233731709=Fast.tw10851572027233731709:=rfl
noncomputable def _root_.PySem.W.Fast.tw4837090833899756733:List Stmt:=[x 10]
theorem _root_.PySem.W.Fast.te4837090833899756733:Fast.tw4837090833899756733=Fast.tw4837090833899756733:=rfl
noncomputable def _root_.PySem.W.Fast.tw12008417113384056445:List Stmt:=[x 14]
theorem _root_.PySem.W.Fast.te12008417113384056445:Fast.tw12008417113384056445=Fast.tw12008417113384056445:=rfl
noncomputable def _root_.PySem.W.Fast.tw5295719889428815015:Program:={PySem.Challenge.pw_patchkin_k15_no_such_store with main:={PySem.Challenge.pw_patchkin_k15_no_such_store.main with body:=[x 0,x 2,x 3,x 4,x 5,x 7,x 8,x 9,x 10,x 11,x 12,x 13,x 14,x 15,x 17,x 18,x 19,x 20,x 21,x 22,x 23,x 24,x 25,x 26,x 27,x 28,x 29,x 30,x 32,x 33,x 34,x 35,x 36,x 37,x 38,x 39,x 41,x 42,x 43,x 44,x 45,x 46,x 47,x 48,x 49,x 50,x 51,x 52,x 53]}}
theorem _root_.PySem.W.Fast.te5295719889428815015:Fast.tw5295719889428815015=Fast.tw5295719889428815015:=rfl
end TW
namespace PK
open PySem L2
theorem all_mk{l:PySem.W.OpenLaw}{w:World}{K:PySem.W.Frag}{h:Heap}{mg:Str→Option Value}{fa f0 f1 f2 f3 f4 f5 f6 f7 f8 f9 Zv Zw Zx Zy Zz ZA ZC ZD ZE ZF ZG ZH ZI ZJ ZK ZL ZM ZN ZO ZP ZQ ZR f32 ZS ZT ZU ZV ZW ZX ZY ZZ Z0 Z1 Z2 Z3 Z4 Z5 Z6 Z7 Z8 Z9 Z_ f52 f53 f54 f55 f56 f57 f58 f59 f60 f61 gH hE hU gk jk i5 iQ gj jc kS jB oQ oE:Addr}{m_ lN:Tok}(X:K.In h)(G:h.Ns mainGlobals mg)(hfa:mg "law"=some (.ref fa))
   (CU:PySem.W.nsIn K mainGlobals "Line"=some (some (.ref gH)))
   (Ae:PySem.W.nsIn K mainGlobals "Patch"=some (some (.ref hE)))
   (Af:PySem.W.nsIn K mainGlobals "Sight"=some (some (.ref hU)))
   (CV:PySem.W.nsIn K mainGlobals "Desk"=some (some (.ref gk)))
   (h0:FI K "counts_with" oK f0)
   (h1:FI K "most_pairs" pY f1)
   (h2:FI K "place_from" pZ f2)
   (h3:FI K "kept" Fs f3)
   (h4:FI K "lines_named_by" kJ f4)
   (h5:FI K "leans_straight_on" jP f5)
   (h6:FI K "live_patches" nz f6)
   (h7:FI K "lines_put" q_ f7)
   (h8:FI K "standing_lines" kK f8)
   (h9:FI K "files_with_lines" k8 f9)
   (TH:FI K "straight_ahead" l6 Zv)
   (Sf:FI K "joined" zg Zw)
   (WY:FI K "all_ahead" oa Zx)
   (WZ:FI K "first_free" p0 Zy)
   (W0:FI K "row_of" uN Zz)
   (W3:FI K "check_name" p5 ZA)
   (W4:FI K "check_places" nA ZC)
   (W5:FI K "kept_behind" oM ZD)
   (W6:FI K "new_lines" ra ZE)
   (W8:FI K "changing_patch" jU ZF)
   (TJ:FI K "_law_cell_at" nE ZG)
   (Sg:FI K "_law_draw" rl ZH)
   (W9:FI K "_law_name" rm ZI)
   (W_:FI K "_law_text" oj ZJ)
   (Xa:FI K "_law_edit" rn ZK)
   (Xb:FI K "_law_deed" om ZL)
   (Xc:FI K "_law_desk" my ZM)
   (Xd:FI K "_law_seen" oq ZN)
   (Xe:FI K "_law_which" qb ZO)
   (Xf:FI K "_law_due" qc ZP)
   (Xg:FI K "_law_ask" tW ZQ)
   (Xh:FI K "_law_refused" nF ZR)
   (Xi:FI K "law" DW f32)
   (Xj:MI K gH "__init__" "Line.__init__" mG ZS)
   (Xk:MI K hE "__init__" "Patch.__init__" l0 ZT)
   (Xl:MI K hU "__init__" "Sight.__init__" l7 ZU)
   (Xm:MI K hU "is_ahead" "Sight.is_ahead" l8 ZV)
   (Xn:MI K hU "quarrelling" "Sight.quarrelling" kO ZW)
   (Xo:MI K hU "most_from" "Sight.most_from" og ZX)
   (Xp:MI K hU "staying" "Sight.staying" mH ZY)
   (TK:MI K gk "__init__" "Desk.__init__" mI ZZ)
   (Si:MI K gk "begin" "Desk.begin" p7 Z0)
   (Xq:MI K gk "stores" "Desk.stores" oN Z1)
   (Xr:MI K gk "patches" "Desk.patches" nB Z2)
   (Xs:MI K gk "has" "Desk.has" p8 Z3)
   (Xt:MI K gk "record" "Desk.record" mj Z4)
   (Xu:MI K gk "cut" "Desk.cut" p9 Z5)
   (Xv:MI K gk "back" "Desk.back" rf Z6)
   (Xw:MI K gk "take" "Desk.take" oh Z7)
   (Xx:MI K gk "drop" "Desk.drop" rg Z8)
   (TL:MI K gk "leans" "Desk.leans" mZ Z9)
   (Sj:MI K gk "files" "Desk.files" p_ Z_)
   (Xy:MI K gk "row" "Desk.row" qa f52)
   (Xz:MI K gk "quarrels" "Desk.quarrels" mJ f53)
   (XA:MI K gk "stay" "Desk.stay" rh f54)
   (XC:MI K gk "patches_of" "Desk.patches_of" ko f55)
   (XD:MI K gk "sight_of" "Desk.sight_of" mK f56)
   (XE:MI K gk "check_store" "Desk.check_store" k9 f57)
   (XF:MI K gk "check_made" "Desk.check_made" lI f58)
   (XG:MI K gk "check_held" "Desk.check_held" lJ f59)
   (XH:MI K gk "check_new" "Desk.check_new" l9 f60)
   (XI:MI K gk "keep" "Desk.keep" rj f61)
   (CW:PySem.W.plainGet K gH Str.empty=true)
   (CY:PySem.W.hasDictIn K gH=true)
   (CZ:PySem.W.plainOver K gH=true)
   (C0:PySem.W.findIn K (.ref gH) "__setattr__"=some (some (.builtin "object.__setattr__")))
   (C1:PySem.W.makesIn K gH=true)
   (C2:PySem.W.keepIn K (.ref gH)=true)
   (gE:PySem.W.findIn K (.ref gH) "name"=some none)
   (jE:PySem.W.findIn K (.ref gH) "text"=some none)
   (iE:PySem.W.findIn K (.ref gH) "upper_name"=some none)
   (iF:PySem.W.findIn K (.ref gH) "lower_name"=some none)
   (Ag:PySem.W.plainGet K hE Str.empty=true)
   (Ai:PySem.W.hasDictIn K hE=true)
   (Aj:PySem.W.plainOver K hE=true)
   (Ak:PySem.W.findIn K (.ref hE) "__setattr__"=some (some (.builtin "object.__setattr__")))
   (Al:PySem.W.makesIn K hE=true)
   (Am:PySem.W.keepIn K (.ref hE)=true)
   (iT:PySem.W.findIn K (.ref hE) "name"=some none)
   (kj:PySem.W.findIn K (.ref hE) "file"=some none)
   (jL:PySem.W.findIn K (.ref hE) "puts"=some none)
   (jM:PySem.W.findIn K (.ref hE) "cuts"=some none)
   (iV:PySem.W.findIn K (.ref hE) "other"=some none)
   (An:PySem.W.plainGet K hU Str.empty=true)
   (Ao:PySem.W.hasDictIn K hU=true)
   (Ap:PySem.W.plainOver K hU=true)
   (Aq:PySem.W.findIn K (.ref hU) "__setattr__"=some (some (.builtin "object.__setattr__")))
   (Ar:PySem.W.makesIn K hU=true)
   (As:PySem.W.keepIn K (.ref hU)=true)
   (jt:PySem.W.findIn K (.ref hU) "ahead"=some none)
   (iq:PySem.W.findIn K (.ref hU) "lines"=some none)
   (C3:PySem.W.plainGet K gk Str.empty=true)
   (C4:PySem.W.hasDictIn K gk=true)
   (C5:PySem.W.plainOver K gk=true)
   (C6:PySem.W.findIn K (.ref gk) "__setattr__"=some (some (.builtin "object.__setattr__")))
   (C7:PySem.W.makesIn K gk=true)
   (C8:PySem.W.keepIn K (.ref gk)=true)
   (iM:PySem.W.findIn K (.ref gk) "made"=some none)
   (i8:PySem.W.findIn K (.ref gk) "needs"=some none)
   (ip:PySem.W.findIn K (.ref gk) "held"=some none)
   (oZ:PySem.W.nsIn K mainGlobals "PatchError"=some (some (.ref jk)))
   (ue:PySem.W.nsIn K mainGlobals "BadName"=some (some (.ref i5)))
   (qp:PySem.W.nsIn K mainGlobals "NameTaken"=some (some (.ref iQ)))
   (uf:PySem.W.nsIn K mainGlobals "NoStore"=some (some (.ref gj)))
   (ug:PySem.W.nsIn K mainGlobals "NoPatch"=some (some (.ref jc)))
   (wQ:PySem.W.nsIn K mainGlobals "NoLine"=some (some (.ref kS)))
   (qr:PySem.W.nsIn K mainGlobals "Unsettled"=some (some (.ref jB)))
   (C9:PySem.W.nsIn K mainGlobals "Same"=some (some (.ref oQ)))
   (Au:PySem.W.nsIn K mainGlobals "Leant"=some (some (.ref oE)))
   (o3:PySem.W.nsIn K mainGlobals "NAME_SIGNS"=some (some (.str (Str.ofString "abcdefghijklmnopqrstuvwxyz0123456789") m_)))
   (mS:PySem.W.nsIn K mainGlobals "LONGEST_NAME"=some (some (.int 12 lN)))
   (Kw:PySem.W.nsIn K mainGlobals "len"=some none)
   (C_:PySem.W.nsIn K mainGlobals "range"=some none)
   (Kx:PySem.W.nsIn K mainGlobals "max"=some none)
   (qt:PySem.W.nsIn K mainGlobals "isinstance"=some none)
   (FZ:PySem.W.nsIn K mainGlobals "list"=some none)
   (uh:PySem.W.nsIn K mainGlobals "reversed"=some none)
   (Av:PySem.W.nsIn K mainGlobals "sorted"=some none)
   (Ky:PySem.W.nsIn K mainGlobals "set"=some none)
   (sD:PySem.W.nsIn K mainGlobals "enumerate"=some none)
   (qu:PySem.W.nsIn K mainGlobals "ValueError"=some none)
   (ui:PySem.W.findIn K (.ref gj) "__getattribute__"=some (some (.builtin "BaseException.__getattribute__")))
   (uj:PySem.W.findIn K (.ref gj) "__getattr__"=some none)
   (uk:PySem.W.findIn K (.ref gj) "__class__"=some (some (.builtin "object.__class__")))
   (um:PySem.W.mroIn K gj (.type "object")=some true)
   (uo:PySem.W.mroIn K gj (.type "BaseException")=some true)
   (o4:PySem.W.excIn K jk [.type "ValueError",.type "Exception",.type "BaseException",.type "object"] "ValueError.__new__"=true)
   (uq:PySem.W.excIn K i5 [.type "ValueError",.type "Exception",.type "BaseException",.type "object"] "ValueError.__new__"=true)
   (qv:PySem.W.excIn K iQ [.type "ValueError",.type "Exception",.type "BaseException",.type "object"] "ValueError.__new__"=true)
   (ur:PySem.W.excIn K gj [.type "ValueError",.type "Exception",.type "BaseException",.type "object"] "ValueError.__new__"=true)
   (uu:PySem.W.excIn K jc [.type "ValueError",.type "Exception",.type "BaseException",.type "object"] "ValueError.__new__"=true)
   (wR:PySem.W.excIn K kS [.type "ValueError",.type "Exception",.type "BaseException",.type "object"] "ValueError.__new__"=true)
   (qw:PySem.W.excIn K jB [.type "ValueError",.type "Exception",.type "BaseException",.type "object"] "ValueError.__new__"=true)
   (Dc:PySem.W.excIn K oQ [.type "ValueError",.type "Exception",.type "BaseException",.type "object"] "ValueError.__new__"=true)
   (Aw:PySem.W.excIn K oE [.type "ValueError",.type "Exception",.type "BaseException",.type "object"] "ValueError.__new__"=true)
   (jF:PySem.W.kitOne K (.ref gj) (.ref jk)=some true)
   (jG:PySem.W.kitOne K (.ref gj) (.ref i5)=some false)
   (jf:PySem.W.kitOne K (.ref gj) (.ref iQ)=some false)
   (jH:PySem.W.kitOne K (.ref gj) (.ref gj)=some true)
   (jI:PySem.W.kitOne K (.ref gj) (.ref jc)=some false)
   (jW:PySem.W.kitOne K (.ref gj) (.ref kS)=some false)
   (jg:PySem.W.kitOne K (.ref gj) (.ref jB)=some false)
   (kD:PySem.W.kitOne K (.ref gj) (.ref oQ)=some false)
   (j_:PySem.W.kitOne K (.ref gj) (.ref oE)=some false)
   (uv:PySem.W.kitOne K (.ref gj) (.type "ValueError")=some true)
   (uw:(PySem.W.clsIn K gj).isSome=true)
   (pJ:Fg K gj jk=true)
   (qi:Fg K gj gj=true) :
   ∃fd:FuncData,(∀(s:Shared)(v:Value),BindsTo s fd ⟨[v],[]⟩ [("script",v)])∧∀base:Heap,K.In base→base.Ns mainGlobals mg→ie l.prog w K mg base lZ 20 fa fd ["script"] (GR K):=by
 obtain⟨m0,d0,F0⟩:=h0
 obtain⟨m1,d1,F1⟩:=h1
 obtain⟨m2,d2,F2⟩:=h2
 obtain⟨m3,d3,F3⟩:=h3
 obtain⟨m4,d4,F4⟩:=h4
 obtain⟨m5,d5,F5⟩:=h5
 obtain⟨m6,d6,F6⟩:=h6
 obtain⟨m7,d7,F7⟩:=h7
 obtain⟨m8,d8,F8⟩:=h8
 obtain⟨m9,d9,F9⟩:=h9
 obtain⟨m10,d10,F10⟩:=TH
 obtain⟨m11,d11,F11⟩:=Sf
 obtain⟨m12,d12,F12⟩:=WY
 obtain⟨m13,d13,F13⟩:=WZ
 obtain⟨m14,d14,F14⟩:=W0
 obtain⟨m15,d15,F15⟩:=W3
 obtain⟨m16,d16,F16⟩:=W4
 obtain⟨m17,d17,F17⟩:=W5
 obtain⟨m18,d18,F18⟩:=W6
 obtain⟨m19,d19,F19⟩:=W8
 obtain⟨m20,d20,F20⟩:=TJ
 obtain⟨m21,d21,F21⟩:=Sg
 obtain⟨m22,d22,F22⟩:=W9
 obtain⟨m23,d23,F23⟩:=W_
 obtain⟨m24,d24,F24⟩:=Xa
 obtain⟨m25,d25,F25⟩:=Xb
 obtain⟨m26,d26,F26⟩:=Xc
 obtain⟨m27,d27,F27⟩:=Xd
 obtain⟨m28,d28,F28⟩:=Xe
 obtain⟨m29,d29,F29⟩:=Xf
 obtain⟨m30,d30,F30⟩:=Xg
 obtain⟨m31,d31,F31⟩:=Xh
 obtain⟨m32,d32,F32⟩:=Xi
 obtain⟨XJ,d33,F33⟩:=Xj
 obtain⟨XM,d34,F34⟩:=Xk
 obtain⟨XN,d35,F35⟩:=Xl
 obtain⟨m36,d36,F36⟩:=Xm
 obtain⟨m37,d37,F37⟩:=Xn
 obtain⟨m38,d38,F38⟩:=Xo
 obtain⟨m39,d39,F39⟩:=Xp
 obtain⟨XO,d40,F40⟩:=TK
 obtain⟨m41,d41,F41⟩:=Si
 obtain⟨m42,d42,F42⟩:=Xq
 obtain⟨m43,d43,F43⟩:=Xr
 obtain⟨m44,d44,F44⟩:=Xs
 obtain⟨m45,d45,F45⟩:=Xt
 obtain⟨m46,d46,F46⟩:=Xu
 obtain⟨m47,d47,F47⟩:=Xv
 obtain⟨m48,d48,F48⟩:=Xw
 obtain⟨m49,d49,F49⟩:=Xx
 obtain⟨m50,d50,F50⟩:=TL
 obtain⟨m51,d51,F51⟩:=Sj
 obtain⟨m52,d52,F52⟩:=Xy
 obtain⟨m53,d53,F53⟩:=Xz
 obtain⟨m54,d54,F54⟩:=XA
 obtain⟨m55,d55,F55⟩:=XC
 obtain⟨m56,d56,F56⟩:=XD
 obtain⟨m57,d57,F57⟩:=XE
 obtain⟨m58,d58,F58⟩:=XF
 obtain⟨m59,d59,F59⟩:=XG
 obtain⟨m60,d60,F60⟩:=XH
 obtain⟨m61,d61,F61⟩:=XI
 have e:=hfa.symm.trans (aai X G m32)
 cases e
 have T:Txt mg:=⟨aa0 X G Kw,aa0 X G C_,aa0 X G Kx,aa0 X G qt,aa0 X G FZ,aa0 X G uh,aa0 X G Av,aa0 X G Ky,aa0 X G sD,aa0 X G qu⟩
 have O:Ok K mg (Ad.mk f0 d0 f1 d1 f2 d2 f3 d3 ZS d33 ZT d34 f4 d4 f5 d5 f6 d6 f7 d7 f8 d8 f9 d9 Zv d10 Zw d11 Zx d12 Zy d13 Zz d14 ZU d35 ZV d36 ZW d37 ZX d38 ZY d39 ZA d15 ZC d16 ZD d17 ZE d18 ZF d19 ZZ d40 Z0 d41 Z1 d42 Z2 d43 Z3 d44 Z4 d45 Z5 d46 Z6 d47 Z7 d48 Z8 d49 Z9 d50 Z_ d51 f52 d52 f53 d53 f54 d54 f55 d55 f56 d56 f57 d57 f58 d58 f59 d59 f60 d60 f61 d61 ZG d20 ZH d21 ZI d22 ZJ d23 ZK d24 ZL d25 ZM d26 ZN d27 ZO d28 ZP d29 ZQ d30 ZR d31 gH hE hU gk jk i5 iQ gj jc kS jB oQ oE m_ lN ()):=⟨⟨F0,F0.binds fun _ _ _ _ _ _ us hl=>(by obtain⟨_,_,_,rfl⟩:=FQ hl;rfl),aai X G m0⟩,⟨F1,F1.binds fun _ _ _ _ _ _ us hl=>(by obtain⟨_,_,rfl⟩:=ln2 hl;rfl),aai X G m1⟩,⟨F2,F2.binds fun _ _ _ _ _ _ us hl=>(by obtain⟨_,_,_,rfl⟩:=FQ hl;rfl),aai X G m2⟩,⟨F3,F3.binds fun _ _ _ _ _ _ us hl=>(by obtain⟨_,_,rfl⟩:=ln2 hl;rfl),aai X G m3⟩,⟨F33,F33.binds fun _ _ _ _ _ _ us hl=>(by obtain⟨_,_,_,_,_,rfl⟩:=RG hl;rfl),XJ⟩,⟨F34,F34.binds fun _ _ _ _ _ _ us hl=>(by obtain⟨_,_,_,_,_,_,rfl⟩:=Yy hl;rfl),XM⟩,⟨F4,F4.binds fun _ _ _ _ _ _ us hl=>(by obtain⟨_,rfl⟩:=ED hl;rfl),aai X G m4⟩,⟨F5,F5.binds fun _ _ _ _ _ _ us hl=>(by obtain⟨_,rfl⟩:=ED hl;rfl),aai X G m5⟩,⟨F6,F6.binds fun _ _ _ _ _ _ us hl=>(by obtain⟨_,rfl⟩:=ED hl;rfl),aai X G m6⟩,⟨F7,F7.binds fun _ _ _ _ _ _ us hl=>(by obtain⟨_,_,rfl⟩:=ln2 hl;rfl),aai X G m7⟩,⟨F8,F8.binds fun _ _ _ _ _ _ us hl=>(by obtain⟨_,_,rfl⟩:=ln2 hl;rfl),aai X G m8⟩,⟨F9,F9.binds fun _ _ _ _ _ _ us hl=>(by obtain⟨_,rfl⟩:=ED hl;rfl),aai X G m9⟩,⟨F10,F10.binds fun _ _ _ _ _ _ us hl=>(by obtain⟨_,rfl⟩:=ED hl;rfl),aai X G m10⟩,⟨F11,F11.binds fun _ _ _ _ _ _ us hl=>(by obtain⟨_,_,rfl⟩:=ln2 hl;rfl),aai X G m11⟩,⟨F12,F12.binds fun _ _ _ _ _ _ us hl=>(by obtain⟨_,rfl⟩:=ED hl;rfl),aai X G m12⟩,⟨F13,F13.binds fun _ _ _ _ _ _ us hl=>(by obtain⟨_,rfl⟩:=ED hl;rfl),aai X G m13⟩,⟨F14,F14.binds fun _ _ _ _ _ _ us hl=>(by obtain⟨_,_,rfl⟩:=ln2 hl;rfl),aai X G m14⟩,⟨F35,F35.binds fun _ _ _ _ _ _ us hl=>(by obtain⟨_,_,_,rfl⟩:=FQ hl;rfl),XN⟩,⟨F36,F36.binds fun _ _ _ _ _ _ us hl=>(by obtain⟨_,_,_,rfl⟩:=FQ hl;rfl),m36⟩,⟨F37,F37.binds fun _ _ _ _ _ _ us hl=>(by obtain⟨_,rfl⟩:=ED hl;rfl),m37⟩,⟨F38,F38.binds fun _ _ _ _ _ _ us hl=>(by obtain⟨_,rfl⟩:=ED hl;rfl),m38⟩,⟨F39,F39.binds fun _ _ _ _ _ _ us hl=>(by obtain⟨_,rfl⟩:=ED hl;rfl),m39⟩,⟨F15,F15.binds fun _ _ _ _ _ _ us hl=>(by obtain⟨_,rfl⟩:=ED hl;rfl),aai X G m15⟩,⟨F16,F16.binds fun _ _ _ _ _ _ us hl=>(by obtain⟨_,_,rfl⟩:=ln2 hl;rfl),aai X G m16⟩,⟨F17,F17.binds fun _ _ _ _ _ _ us hl=>(by obtain⟨_,_,rfl⟩:=ln2 hl;rfl),aai X G m17⟩,⟨F18,F18.binds fun _ _ _ _ _ _ us hl=>(by obtain⟨_,_,_,rfl⟩:=FQ hl;rfl),aai X G m18⟩,⟨F19,F19.binds fun _ _ _ _ _ _ us hl=>(by obtain⟨_,_,_,_,rfl⟩:=Tq hl;rfl),aai X G m19⟩,⟨F40,F40.binds fun _ _ _ _ _ _ us hl=>(by obtain⟨_,rfl⟩:=ED hl;rfl),XO⟩,⟨F41,F41.binds fun _ _ _ _ _ _ us hl=>(by obtain⟨_,_,rfl⟩:=ln2 hl;rfl),m41⟩,⟨F42,F42.binds fun _ _ _ _ _ _ us hl=>(by obtain⟨_,rfl⟩:=ED hl;rfl),m42⟩,⟨F43,F43.binds fun _ _ _ _ _ _ us hl=>(by obtain⟨_,rfl⟩:=ED hl;rfl),m43⟩,⟨F44,F44.binds fun _ _ _ _ _ _ us hl=>(by obtain⟨_,_,rfl⟩:=ln2 hl;rfl),m44⟩,⟨F45,F45.binds fun _ _ _ _ _ _ us hl=>(by obtain⟨_,_,_,_,_,rfl⟩:=RG hl;rfl),m45⟩,⟨F46,F46.binds fun _ _ _ _ _ _ us hl=>(by obtain⟨_,_,_,_,_,rfl⟩:=RG hl;rfl),m46⟩,⟨F47,F47.binds fun _ _ _ _ _ _ us hl=>(by obtain⟨_,_,_,_,rfl⟩:=Tq hl;rfl),m47⟩,⟨F48,F48.binds fun _ _ _ _ _ _ us hl=>(by obtain⟨_,_,_,_,rfl⟩:=Tq hl;rfl),m48⟩,⟨F49,F49.binds fun _ _ _ _ _ _ us hl=>(by obtain⟨_,_,_,rfl⟩:=FQ hl;rfl),m49⟩,⟨F50,F50.binds fun _ _ _ _ _ _ us hl=>(by obtain⟨_,_,rfl⟩:=ln2 hl;rfl),m50⟩,⟨F51,F51.binds fun _ _ _ _ _ _ us hl=>(by obtain⟨_,_,rfl⟩:=ln2 hl;rfl),m51⟩,⟨F52,F52.binds fun _ _ _ _ _ _ us hl=>(by obtain⟨_,_,_,rfl⟩:=FQ hl;rfl),m52⟩,⟨F53,F53.binds fun _ _ _ _ _ _ us hl=>(by obtain⟨_,_,_,rfl⟩:=FQ hl;rfl),m53⟩,⟨F54,F54.binds fun _ _ _ _ _ _ us hl=>(by obtain⟨_,_,_,rfl⟩:=FQ hl;rfl),m54⟩,⟨F55,F55.binds fun _ _ _ _ _ _ us hl=>(by obtain⟨_,_,rfl⟩:=ln2 hl;rfl),m55⟩,⟨F56,F56.binds fun _ _ _ _ _ _ us hl=>(by obtain⟨_,_,_,rfl⟩:=FQ hl;rfl),m56⟩,⟨F57,F57.binds fun _ _ _ _ _ _ us hl=>(by obtain⟨_,_,rfl⟩:=ln2 hl;rfl),m57⟩,⟨F58,F58.binds fun _ _ _ _ _ _ us hl=>(by obtain⟨_,_,rfl⟩:=ln2 hl;rfl),m58⟩,⟨F59,F59.binds fun _ _ _ _ _ _ us hl=>(by obtain⟨_,_,_,rfl⟩:=FQ hl;rfl),m59⟩,⟨F60,F60.binds fun _ _ _ _ _ _ us hl=>(by obtain⟨_,_,_,rfl⟩:=FQ hl;rfl),m60⟩,⟨F61,F61.binds fun _ _ _ _ _ _ us hl=>(by obtain⟨_,_,_,rfl⟩:=FQ hl;rfl),m61⟩,⟨F20,F20.binds fun _ _ _ _ _ _ us hl=>(by obtain⟨_,_,rfl⟩:=ln2 hl;rfl),aai X G m20⟩,⟨F21,F21.binds fun _ _ _ _ _ _ us hl=>(by obtain⟨_,_,_,rfl⟩:=FQ hl;rfl),aai X G m21⟩,⟨F22,F22.binds fun _ _ _ _ _ _ us hl=>(by obtain⟨_,_,rfl⟩:=ln2 hl;rfl),aai X G m22⟩,⟨F23,F23.binds fun _ _ _ _ _ _ us hl=>(by obtain⟨_,rfl⟩:=ED hl;rfl),aai X G m23⟩,⟨F24,F24.binds fun _ _ _ _ _ _ us hl=>(by obtain⟨_,_,rfl⟩:=ln2 hl;rfl),aai X G m24⟩,⟨F25,F25.binds fun _ _ _ _ _ _ us hl=>(by obtain⟨_,_,_,_,_,_,rfl⟩:=Yy hl;rfl),aai X G m25⟩,⟨F26,F26.binds fun _ _ _ _ _ _ us hl=>(by obtain⟨_,_,_,_,rfl⟩:=Tq hl;rfl),aai X G m26⟩,⟨F27,F27.binds fun _ _ _ _ _ _ us hl=>(by obtain⟨_,_,_,rfl⟩:=FQ hl;rfl),aai X G m27⟩,⟨F28,F28.binds fun _ _ _ _ _ _ us hl=>(by obtain⟨_,rfl⟩:=ED hl;rfl),aai X G m28⟩,⟨F29,F29.binds fun _ _ _ _ _ _ us hl=>(by obtain⟨_,rfl⟩:=ED hl;rfl),aai X G m29⟩,⟨F30,F30.binds fun _ _ _ _ _ _ us hl=>(by obtain⟨_,_,_,_,_,rfl⟩:=RG hl;rfl),aai X G m30⟩,⟨F31,F31.binds fun _ _ _ _ _ _ us hl=>(by obtain⟨_,_,_,_,_,rfl⟩:=RG hl;rfl),aai X G m31⟩,⟨CW,CY,CZ,C0⟩,⟨C1,XJ.at_,XJ.fn,C2⟩,aai X G CU,gE,jE,iE,iF,⟨Ag,Ai,Aj,Ak⟩,⟨Al,XM.at_,XM.fn,Am⟩,aai X G Ae,iT,kj,jL,jM,iV,⟨An,Ao,Ap,Aq⟩,⟨Ar,XN.at_,XN.fn,As⟩,aai X G Af,jt,iq,⟨C3,C4,C5,C6⟩,⟨C7,XO.at_,XO.fn,C8⟩,aai X G CV,iM,i8,ip,⟨aai X G oZ,o4⟩,⟨aai X G ue,uq⟩,⟨aai X G qp,qv⟩,⟨aai X G uf,ur⟩,⟨aai X G ug,uu⟩,⟨aai X G wQ,wR⟩,⟨aai X G qr,qw⟩,⟨aai X G C9,Dc⟩,⟨aai X G Au,Aw⟩,aai X G o3,aai X G mS,⟨ui,uj,uk,um,uo,uw⟩,jF,jG,jf,jH,jI,jW,jg,kD,j_,uv,pJ,qi,True.intro⟩
 refine⟨d32,fun s v=>?_,fun base _ _=>Ox F32 T O⟩
 obtain⟨_,_,_,_,_,_,_,_,_,rfl,_,_⟩:=F32.ex
 exact .of_eq rfl
theorem walk{l:PySem.W.OpenLaw}{q:Program}{loose:List Str}{XP:(Str→Option Value)→Heap→Prop}{YP:World→Heap→Prop}{d:DefRec}{K:Params→PySem.W.Frag}(hn:l.most=some 63)(Rb:d.params.defaults=[])
   (hY:∀(w:World)(h:Heap),YP w h→(K w.params).In h)
   (F:∀(w:World)(mg:Str→Option Value)(fa:Addr)(h:Heap),(K w.params).In h→h.Ns mainGlobals mg→mg d.name=some (.ref fa)→
     ∃fd:FuncData,(∀(s:Shared)(u:Value),BindsTo s fd ⟨[u],[]⟩ [("script",u)])∧∀base:Heap,(K w.params).In base→base.Ns mainGlobals mg→ie l.prog w (K w.params) mg base lZ 20 fa fd ["script"] (GR (K w.params))) :
   PySem.W.WalkO q loose XP YP l.row.toRowW d [] (fun f vs=>PySem.call f vs):=
 L2.Lb (n:=63) (k:=20) (x:="script") (CX:=fun _=>lZ) (sp:=fun w=>GR (K w.params)) hn (by decide) Rb ⟨rfl,by decide,by decide⟩ hY F (fun _ _ a ns hl _ hS=>⟨a,ns,rfl,hS,hl,fun _=>rfl⟩) fun _ _ _ _ _ z=>z
end PK
open PySem PySem.W PyProof.Rows
theorem PySem.Challenge.cw_patchkin_k15_no_such_store_holds : PySem.Challenge.rw_patchkin_k15_no_such_store.Holds := by
 w_on;o_law;k_head;(case hw=>w_witness2)
 k_fill
 refine PK.walk (l:=PySem.Challenge.rw_patchkin_k15_no_such_store) rfl rfl (fun w h Y=>PySem.W.kIn_of Y) ?F
 case F=>
   intro w mg fa h KX G Rc
   refine' PK.all_mk KX G Rc ?zqCU ?zqAe ?zqAf ?zqCV ?zqh0 ?zqh1 ?zqh2 ?zqh3 ?zqh4 ?zqh5 ?zqh6 ?zqh7 ?zqh8 ?zqh9 ?zqTH ?zqSf ?zqWY ?zqWZ ?zqW0 ?zqW3 ?zqW4 ?zqW5 ?zqW6 ?zqW8 ?zqTJ ?zqSg ?zqW9 ?zqW_ ?zqXa ?zqXb ?zqXc ?zqXd ?zqXe ?zqXf ?zqXg ?zqXh ?zqXi ?zqXj ?zqXk ?zqXl ?zqXm ?zqXn ?zqXo ?zqXp ?zqTK ?zqSi ?zqXq ?zqXr ?zqXs ?zqXt ?zqXu ?zqXv ?zqXw ?zqXx ?zqTL ?zqSj ?zqXy ?zqXz ?zqXA ?zqXC ?zqXD ?zqXE ?zqXF ?zqXG ?zqXH ?zqXI ?zqCW ?zqCY ?zqCZ ?zqC0 ?zqC1 ?zqC2 ?zqgE ?zqjE ?zqiE ?zqiF ?zqAg ?zqAi ?zqAj ?zqAk ?zqAl ?zqAm ?zqiT ?zqkj ?zqjL ?zqjM ?zqiV ?zqAn ?zqAo ?zqAp ?zqAq ?zqAr ?zqAs ?zqjt ?zqiq ?zqC3 ?zqC4 ?zqC5 ?zqC6 ?zqC7 ?zqC8 ?zqiM ?zqi8 ?zqip ?zqoZ ?zque ?zqqp ?zquf ?zqug ?zqwQ ?zqqr ?zqC9 ?zqAu ?zqo3 ?zqmS ?zqKw ?zqC_ ?zqKx ?zqqt ?zqFZ ?zquh ?zqAv ?zqKy ?zqsD ?zqqu ?zqui ?zquj ?zquk ?zqum ?zquo ?zqo4 ?zquq ?zqqv ?zqur ?zquu ?zqwR ?zqqw ?zqDc ?zqAw ?zqjF ?zqjG ?zqjf ?zqjH ?zqjI ?zqjW ?zqjg ?zqkD ?zqj_ ?zquv ?zquw ?zqpJ ?zqqi
   (case zqCU|zqAe|zqAf|zqCV=>k_is)
   (case zqh0|zqh1|zqh2|zqh3|zqh4|zqh5|zqh6|zqh7|zqh8|zqh9|zqTH|zqSf|zqWY|zqWZ|zqW0|zqW3|zqW4|zqW5|zqW6|zqW8|zqTJ|zqSg|zqW9|zqW_|zqXa|zqXb|zqXc|zqXd|zqXe|zqXf|zqXg|zqXh|zqXi=>refine' L2.fi_mk ?a ?l ?c ?k;(case a=>k_is);(case l=>k_is);(case c=>k_is);(case k=>k_is))
   (case zqXj|zqXk|zqXl|zqXm|zqXn|zqXo|zqXp|zqTK|zqSi|zqXq|zqXr|zqXs|zqXt|zqXu|zqXv|zqXw|zqXx|zqTL|zqSj|zqXy|zqXz|zqXA|zqXC|zqXD|zqXE|zqXF|zqXG|zqXH|zqXI=>refine' L2.mi_mk ?a ?i ?l ?c ?k;(case a=>k_is);(case i=>k_is);(case l=>k_is);(case c=>k_is);(case k=>k_is))
   (case zqCW|zqCY|zqCZ|zqC0|zqC1|zqC2|zqgE|zqjE|zqiE|zqiF|zqAg|zqAi|zqAj|zqAk|zqAl|zqAm|zqiT|zqkj|zqjL|zqjM|zqiV|zqAn|zqAo|zqAp|zqAq|zqAr|zqAs|zqjt|zqiq|zqC3|zqC4|zqC5|zqC6|zqC7|zqC8|zqiM|zqi8|zqip|zqoZ|zque|zqqp|zquf|zqug|zqwQ|zqqr|zqC9|zqAu|zqo3|zqmS|zqKw|zqC_|zqKx|zqqt|zqFZ|zquh|zqAv|zqKy|zqsD|zqqu|zqui|zquj|zquk|zqum|zquo=>k_is)
   (case zqo4|zquq|zqqv|zqur|zquu|zqwR|zqqw|zqDc|zqAw=>k_exc)
   (case zqjF|zqjG|zqjf|zqjH|zqjI|zqjW|zqjg|zqkD|zqj_|zquv=>kit_is)
   (case zquw|zqpJ|zqqi=>kernel_rfl)
