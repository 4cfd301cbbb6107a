"""Sites: places of what a moved row leaves in a class, what stands there, and which signs are lost."""

from boxeffects.lettering import places_in
from boxeffects.signs import signs_in_class
from boxeffects.ties import is_sign, ties_of


def sites_of_tape(desk, row, cls, ties, name, part):
    """Return the dict from the sites of a tape to their terms."""
    shift, written = part
    terms = dict(written)
    sites = {}
    for place in places_in(signs_in_class(desk, row, cls), name):
        sites[(name, place - shift)] = terms.get(place, ties.tell((name, place)))
    return sites


def sites_behind(desk, row, cls, form):
    """Return the dict from the sites, ascending, to their terms."""
    ties = ties_of(form[0])
    sites = {(name,): term for name, term in zip(desk[1], form[1][1])}
    for (name, kind), part in zip(desk[0], form[1][0]):
        if kind == ("tape",):
            sites.update(sites_of_tape(desk, row, cls, ties, name, part))
        else:
            front, back = part
            sites.update({(name, at): term for at, term in enumerate(front, start=1)})
            sites.update({(name, at - len(back)): term for at, term in enumerate(back)})
    return {site: sites[site] for site in sorted(list(sites))}


def found_signs(desk, row, cls, form):
    """Return the dict from the signs of the class, ascending, to where they are."""
    ties = ties_of(form[0])
    standing = {}
    for site, term in sites_behind(desk, row, cls, form).items():
        standing.setdefault(term, []).append(site)
    found = {}
    for sign in signs_in_class(desk, row, cls):
        told = ties.tell(sign)
        if not is_sign(told):
            found[sign] = ("known", told)
        elif told in standing:
            found[sign] = ("stands", tuple(standing[told]))
        else:
            found[sign] = ("lost",)
    return found


def parts_lost(desk, row, cls, form):
    """Return the tuple of the parts, tuples of signs, that are lost, ascending."""
    ties = ties_of(form[0])
    parts = {}
    for sign, place in found_signs(desk, row, cls, form).items():
        if place == ("lost",):
            parts.setdefault(ties.tell(sign), []).append(sign)
    return tuple([tuple(signs) for signs in parts.values()])
