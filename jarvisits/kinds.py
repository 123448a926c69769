"""KINDs of ADDRESSes: finitely many that stand for all ADDRESSes, as the same is SENT to both."""

from jarvisits.addresses import LETTERS, MOST_LABELS, is_below, is_within, need_address
from jarvisits.sites import keys_of

# The last LABEL of the HOST that stands for all those to which nothing is SENT.
FAR_LABELS = ("a",)


def _domains(keys):
    """The list of the D of all KEYs."""
    return [key[1] for key in keys]


def _wide_domains(keys):
    """The list of the D of the KEYs that are not ALONE."""
    return [key[1] for key in keys if not key[3]]


def _with_further_label(keys, labels):
    """The HOST of these LABELs with the least one of a, b, c, .. ahead with which it is the D of no KEY."""
    # A SITE has fewer WRITEs than there are letters, so one is left.
    domains = _domains(keys)
    hosts = [(letter,) + labels for letter in LETTERS]
    return [host for host in hosts if host not in domains][0]


def _host_kind(keys, host):
    """The HOST of the KIND of an ADDRESS with this HOST."""
    if host in _domains(keys):
        return host
    around = [domain for domain in _wide_domains(keys) if is_within(host, domain)]
    return _with_further_label(keys, max(around, key=len, default=FAR_LABELS))


def _path_kind(keys, path):
    """The PATH of the KIND of an ADDRESS with this PATH."""
    return max([key[2] for key in keys if is_below(path, key[2])], key=len, default=())


def host_kinds(keys):
    """The ascending list of the HOSTs of all KINDs for SITEs with these KEYs."""
    # A D of as many LABELs as there can be has no HOST WITHIN it but itself.
    wide = [domain for domain in _wide_domains(keys) if len(domain) < MOST_LABELS]
    further = [_with_further_label(keys, labels) for labels in wide + [FAR_LABELS]]
    return sorted(set(_domains(keys) + further))


def kinds_among(keys):
    """The ascending tuple of the KINDs of all ADDRESSes for SITEs with these KEYs."""
    paths = sorted(set([key[2] for key in keys] + [()]))
    return tuple([(host, path, secure) for host in host_kinds(keys) for path in paths for secure in (False, True)])


def kind_of(site, address):
    """The KIND of an ADDRESS for a SITE."""
    keys = keys_of(site)
    host, path, secure = need_address(address)
    return (_host_kind(keys, host), _path_kind(keys, path), secure)


def kinds(site):
    """The ascending tuple of the KINDs of all ADDRESSes for a SITE."""
    return kinds_among(keys_of(site))
