"""Ways along arrows."""


def ways_from(start, arrows):
    """For each place to which arrows (tail, head, mark) lead: the row of a shortest way's marks."""
    ways = {start: ()}
    layer = [start]
    while layer:
        fresh = []
        for here in layer:
            for tail, head, mark in arrows:
                if tail == here and head not in ways:
                    ways[head] = ways[here] + (mark,)
                    fresh.append(head)
        layer = fresh
    return ways
