"""Plain grass: one hour, no gates, and grass on every path that lies as it was last walked."""
