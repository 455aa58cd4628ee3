"""The desk at which a machine is edited, and watched."""
