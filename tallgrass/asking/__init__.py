"""Questions, and how books and half books answer them."""
