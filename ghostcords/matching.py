"""The fewest facts that are in all clashes, and as many clashes no two of which have a fact in common (Koenig)."""


def most_clashes(clashes):
    """As many as can be of these pairs of a Held and a Free, no two with a fact in common, in order."""
    partners = {}
    for held in helds_among(clashes):
        take_in(held, clashes, partners, [])
    return sorted([(held, free) for free, held in partners.items()])


def helds_among(clashes):
    """The numbers of the Helds of these clashes, each once."""
    return sorted(set([held for held, _ in clashes]))


def take_in(held, clashes, partners, asked):
    """Whether a Held can have a Free of its own, the others keeping one; partners tell the Held of each Free.

    asked are the Frees that were tried; the partners are changed if it can.
    """
    for one, free in clashes:
        if one == held and free not in asked:
            asked.append(free)
            if free not in partners or take_in(partners[free], clashes, partners, asked):
                partners[free] = held
                return True
    return False


def fewest_facts(clashes, pairs):
    """The ascending numbers of as few facts as these pairs, which are as many as can be, with one of each clash."""
    partners = {free: held for held, free in pairs}
    taken = list(partners.values())
    waiting = [held for held in helds_among(clashes) if held not in taken]
    reached = list(waiting)
    frees = []
    while waiting:
        held = waiting.pop()
        for one, free in clashes:
            # A Free without a partner could be taken in here, and the pairs would not be as many as can be.
            if one == held and free not in frees:
                frees.append(free)
                waiting.append(partners[free])
                reached.append(partners[free])
    return sorted([held for held in taken if held not in reached] + frees)
