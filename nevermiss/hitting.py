"""Sets as bits: which least sets have an element of each of some sets."""


def borders(every, ask):
    """Two dicts: from the least sets of a family to what was told of them, from the least ones that hit all to proofs.

    every is the set of all elements there are. ask(bits) tells a set of the family without an element of bits and
    something of it, or None and a proof that there is none. A least set that hits all sets found so far hits the whole
    family, or one more set is found. If all such sets hit the family, they are all there are.
    """
    told = {}
    proofs = {}
    hits = [0]
    # Where the family has the empty set, asking for all elements at first tells it at once.
    new = [every]
    while new:
        bits = max(new, key=lambda one: (len(single_bits(one)), one))
        found, paper = ask(bits)
        if found is None:
            proofs[bits] = paper
        else:
            told[found] = paper
            hits = hits_too(hits, found)
        new = [hit for hit in hits if hit not in proofs]
    return {bits: told[bits] for bits in least_sets(list(told))}, {bits: proofs[bits] for bits in hits}


def least_hits(sets):
    """The least sets that have an element of each set, ascending as numbers."""
    hits = [0]
    for bits in sets:
        hits = hits_too(hits, bits)
    return sorted(hits)


def hits_too(hits, bits):
    """Of least sets that hit some sets, those that hit one more set, too."""
    kept = [hit for hit in hits if hit & bits]
    grown = []
    for hit in hits:
        if not hit & bits:
            for one in single_bits(bits):
                if not any([other | hit | one == hit | one for other in kept]):
                    grown.append(hit | one)
    return [*kept, *grown]


def single_bits(bits):
    """The bits of a set, each as a set of its own."""
    return [1 << at for at in range(bits.bit_length()) if bits >> at & 1]


def least_sets(sets):
    """Those of some different sets that have no other one of them within."""
    return [bits for bits in sets if not any([other != bits and other | bits == bits for other in sets])]
