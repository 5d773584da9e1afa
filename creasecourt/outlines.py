"""Outlines: how many quarters lie at each place, as rows of signs."""

from creasecourt.places import is_quarter


def sign_for(piles, place):
    if not is_quarter(place):
        return " "
    count = len(piles.get(place, []))
    if count == 0:
        return "."
    return str(count) if count <= 9 else "#"


def outline(piles):
    across = [place[0] for place in piles]
    down = [place[1] for place in piles]
    rows = []
    for y in range(min(down), max(down) + 1):
        rows.append("".join([sign_for(piles, (x, y)) for x in range(min(across), max(across) + 1)]))
    return "\n".join(rows)
