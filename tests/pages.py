"""The HOSTs, PAGEs and WRITEs of which many tests make their SITEs by hand."""

HOST = ("www", "shop", "org")
SHOP = ("shop", "org")
FAR = ("far", "net")
FIVE = ("a", "b", "c", "d", "e")
ADDRESS = (HOST, ("in",), True)
OPEN = (HOST, ("in",), False)
# KEYs of WRITEs as put makes them, in a PAGE as page_of makes it.
OWN = ("id", HOST, (), True)
WIDE = ("id", SHOP, (), False)


def page_of(*writes, address=ADDRESS):
    return (address, writes)


def put(value, domain=None, name="id", folder=(), guarded=False):
    """A WRITE, ahead what most tests vary."""
    return (name, value, domain, folder, guarded)


def many_keys(many):
    """A SITE with so many unlike KEYs, of one NAME each, a and so on, five on a PAGE."""
    writes = [put("a", name="abcdefghij"[number]) for number in range(many)]
    return tuple(page_of(*writes[at:at + 5]) for at in range(0, max(many, 1), 5))
