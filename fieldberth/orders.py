"""Orders of members: which one makes the least structure."""

from fieldberth.layouts import check_options, checked_members, member_shapes
from fieldberth.placing import placed


def least_order(members, *, convention="sysv", pack=None, align=None, ends="little"):
    """Return the least size of a structure of these members, and the least order of their places that has it."""
    check_options(convention, pack, align, ends)
    shapes = member_shapes(checked_members(members), pack)
    sized = []
    for order in orders_of(len(shapes)):
        positions, size, alignment = placed([shapes[place] for place in order], False, convention, pack, align)
        sized.append((size, order))
    return min(sized)


def orders_of(many):
    """Return the ascending list of all orders of so many places."""
    orders = [[]]
    for step in range(many):
        orders = [[*order, place] for order in orders for place in range(many) if place not in order]
    return orders
