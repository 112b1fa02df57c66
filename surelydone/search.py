"""The search for all places to which one can come."""

from surelydone.errors import TooMany


def all_reached(first, following, most):
    """Return the ascending list of a place and all to which one comes from there.

    `following` tells the places that come directly after a place. TooMany(most) is raised
    if there are more places than that.
    """
    found = {first: True}
    ahead = [first]
    while ahead:
        place = ahead.pop()
        for after in following(place):
            if after not in found:
                found[after] = True
                ahead.append(after)
        if len(found) > most:
            raise TooMany(most)
    return sorted(found)
