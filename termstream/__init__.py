"""Numbers as streams of whole terms, and machines that take and give them."""
