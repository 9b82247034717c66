"""Sets as bits: which least sets have an element of each of some sets."""


def least_hits(sets):
    """The least sets that have an element of each set, ascending as numbers."""
    hits = [0]
    for bits in sets:
        hits = hits_too(hits, bits)
    return sorted(hits)


def hits_too(hits, bits):
    """Of least sets that hit some sets, those that hit one more set, too."""
    kept = [hit for hit in hits if hit & bits]
    grown = []
    for hit in hits:
        if not hit & bits:
            for one in single_bits(bits):
                if not any([other | hit | one == hit | one for other in kept]):
                    grown.append(hit | one)
    return [*kept, *grown]


def single_bits(bits):
    """The bits of a set, each as a set of its own."""
    return [1 << at for at in range(bits.bit_length()) if bits >> at & 1]


def least_sets(sets):
    """Those of some different sets that have no other one of them within."""
    return [bits for bits in sets if not any([other != bits and other | bits == bits for other in sets])]
